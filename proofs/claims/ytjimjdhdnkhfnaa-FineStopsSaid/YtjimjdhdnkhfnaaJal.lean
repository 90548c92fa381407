/- Contracts of functions of the program and of the reference, a calculus of states, and plain facts: a part of a proof. Own text. -/
import Derived.Test.YtjimjdhdnkhfnaaJah
import Derived.Test.YtjimjdhdnkhfnaaJai
import Derived.Test.YtjimjdhdnkhfnaaJak
import Derived.Deep.MidRow
import Derived.Deep.AppendLies
import Derived.Sort.AtCall
set_option linter.unusedVariables false
set_option linter.unusedSimpArgs false
set_option linter.unusedSectionVars false
namespace Go.Proofs.Ytjimjdhdnkhfnaa
open Go Go.RowKit
set_option maxHeartbeats 400000
set_option maxRecDepth 100000
def inB (n lo hi : Int) : Bool := decide (lo ≤ n) && decide (n ≤ hi)
theorem inB_iff {n lo hi : Int} : inB n lo hi = true ↔ lo ≤ n ∧ n ≤ hi := by simp [inB]
def err (b : Bool) (n : Int) : Int := if b = true then 0 else n
def orE : List Int → Int
  | [] => 0
  | x :: l => if x = 0 then orE l else x
theorem orE_ne {x : Int} (l : List Int) (h : x ≠ 0) : orE (x :: l) = x := by rw [orE, if_neg h]
theorem orE_0 (l : List Int) : orE (0 :: l) = orE l := by rw [orE, if_pos rfl]
theorem ints_get {l : List Int} {j : Nat} (h : j < l.length) : (ints l)[j]? = some (.int .i64 (l.getD j 0)) := by
  unfold ints; rw [List.getElem?_map, List.getElem?_eq_getElem h, List.getD_eq_getElem?_getD, List.getElem?_eq_getElem h]; rfl
theorem ints_one (l : List Int) : (⟨ints l⟩ : Array Value).all (·.oneCell') = true := by
  rw [Array.all_eq_true]; intro i hi; simp [ints, Value.oneCell']
theorem ints_one' : ∀ l : List Int, ∀ u ∈ ints l, u.oneCell' = true := by intro l u hu; simp [ints] at hu; obtain ⟨z, _, rfl⟩ := hu; rfl
theorem ints_len (l : List Int) : (ints l).length = l.length := by simp [ints]
theorem list4 {l : List Int} (h : l.length = 4) : ∃ a b c d, l = [a, b, c, d] := by
  match l, h with | [a, b, c, d], _ => exact ⟨a, b, c, d, rfl⟩
theorem list5 {l : List Int} (h : l.length = 5) : ∃ a b c d e, l = [a, b, c, d, e] := by
  match l, h with | [a, b, c, d, e], _ => exact ⟨a, b, c, d, e, rfl⟩
theorem list7 {l : List Int} (h : l.length = 7) : ∃ a b c d e f g, l = [a, b, c, d, e, f, g] := by
  match l, h with | [a, b, c, d, e, f, g], _ => exact ⟨a, b, c, d, e, f, g, rfl⟩
theorem list9 {l : List Int} (h : l.length = 9) : ∃ a b c d e f g i j, l = [a, b, c, d, e, f, g, i, j] := by
  match l, h with | [a, b, c, d, e, f, g, i, j], _ => exact ⟨a, b, c, d, e, f, g, i, j, rfl⟩
theorem rbEq {x y : Bool} (h : x = true ↔ y = true) : Ending.returned (Value.bool x) = Ending.returned (Value.bool y) := by rw [Bool.eq_iff_iff.2 h]
theorem riEq {x y : Int} (h : x = y) : Ending.returned (Value.int .i64 x) = Ending.returned (Value.int .i64 y) := by rw [h]
theorem rangeAt_keep {w w' : World} {b o : Nat} {cs : List Value} (h : w.rangeAt b o cs) (hl : b < w.heap.size) (hb : Below w.heap.size w w') : w'.rangeAt b o cs := fun j v hv =>
  (hb.cell (p := ⟨b, o + j, none⟩) hl).trans (h j v hv)
theorem rangeAt_put {w U : World} {b g o : Nat} {cs : List Value} (h : w.rangeAt b o cs) (p : Put w g U) (hne : b ≠ g) : U.rangeAt b o cs := fun j v hv => by
  have := h j v hv
  rw [← this]
  simp only [World.cell?, p.block b hne]
theorem range_part {w : World} {b o : Nat} {l : List Int} (h : w.rangeAt b o (ints l)) (p q : Nat) : w.rangeAt b (o + p) (ints ((l.drop p).take q)) := fun j v hv => by
  unfold ints at hv
  rw [List.getElem?_map, List.getElem?_take] at hv
  split at hv
  · rw [List.getElem?_drop] at hv
    rw [Nat.add_assoc]
    exact h (p + j) v (by unfold ints; rw [List.getElem?_map]; exact hv)
  · cases hv
theorem Bx.range {w : World} {b : Nat} {t : TypeId} {cs : List Value} (K : Bx w b t cs) : w.rangeAt b 0 cs := fun j v hv => by rw [Nat.zero_add, K.get]; exact hv
structure Rw (w : World) (A : Option Addr) (n k : Nat) (L : List (List Int)) : Prop where
  len : n = L.length
  small : n ≤ 9223372036854775807
  wid : ∀ x ∈ L, x.length = k
  get : ∀ i (h : i < L.length), ∃ b o, A = some ⟨b, o, none⟩ ∧ b < w.heap.size ∧ w.rangeAt b (o + i * k) (ints L[i])
theorem Rw.keep {w w' : World} {A : Option Addr} {n k : Nat} {L : List (List Int)} (h : Rw w A n k L) (hb : Below w.heap.size w w') : Rw w' A n k L :=
  ⟨h.len, h.small, h.wid, fun i hi => by
    obtain ⟨b, o, e, h1, h2⟩ := h.get i hi
    exact ⟨b, o, e, Nat.lt_of_lt_of_le h1 hb.size, rangeAt_keep h2 h1 hb⟩⟩
theorem Rw.put {w U : World} {A : Option Addr} {n k g : Nat} {L : List (List Int)} (h : Rw w A n k L) (p : Put w g U) (hA : ∀ q, A = some q → q.block ≠ g) : Rw U A n k L :=
  ⟨h.len, h.small, h.wid, fun i hi => by
    obtain ⟨b, o, e, h1, h2⟩ := h.get i hi
    exact ⟨b, o, e, by rw [p.size]; exact h1, rangeAt_put h2 p (hA _ e)⟩⟩
theorem Rw.nil (w : World) (A : Option Addr) (k : Nat) : Rw w A 0 k [] := ⟨rfl, by omega, fun x h => (by cases h), fun i h => absurd h (by simp)⟩
theorem Rw.at {w : World} {A : Option Addr} {n k : Nat} {L : List (List Int)} (h : Rw w A n k L) {i : Nat} (hi : i < L.length) : (L[i]).length = k := h.wid _ (List.getElem_mem hi)
section
variable {P : Program} {ops : Array Oper} {rest : List Oper} {o : Oper} {a : Act} {w : World} {Q : Exit → Act → World → Prop}
theorem wpList_getAt (ty : TypeId) (p : Tmp) (hg : o.guard = none) (ho : o.op = .load ty (.tmp p)) {b off : Nat} {cs : List Value} (hc : w.rangeAt b off cs) (hx : a.eval (.tmp p) = .pointer (some ⟨b, off, none⟩)) {d : TypeDesc}
    (hu : P.underlying ty = some d) (hd : d.isRow = true) (hi : (P.info? ty).map (·.size) = some cs.length)
    (h : wpList P ops Q rest (a.put o.dst (.agg ⟨cs⟩)) w) : wpList P ops Q (o :: rest) a w :=
  wpList_load_mid hg ty (.tmp p) ho b off hx cs d hc hu hd hi h
end
section
variable {P : Program} {ops : Array Oper} {Q : Exit → Act → World → Prop} {a : Act} {w : World} {rest : List Oper} {o : Oper} {v : Value} {t : Nat}
theorem list_value (hd : o.dst = some t) (hw : Region.wanted o (yielded ops a.tmps) = true) (hr : (execOp a.eval o).run P w = .ok (.value v) w) (h : wpList P ops Q rest (a.put (some t) v) w) : wpList P ops Q (o :: rest) a w := by
  unfold wpList
  rw [if_pos hw]
  refine .inl ?_
  unfold Oper.wp
  rw [hr, Oper.upon_value, hd]
  exact h
theorem run_rows (ty : TypeId) (x : Operand) {b off : Nat} {cs : List Value} {d : TypeDesc} (ho : o.op = .load ty x) (hx : a.eval x = .pointer (some ⟨b, off, none⟩)) (hc : w.rangeAt b off cs)
    (hu : P.underlying ty = some d) (hd : d.isRow = true) (hi : (P.info? ty).map (·.size) = some cs.length) : (execOp a.eval o).run P w = .ok (.value (.agg ⟨cs⟩)) w := by
  unfold execOp
  simp only [ho, hx, Instr.loadAt, Instr.sureAddr, Sem.run_bind, Sem.run_pure, Result.andThen_ok, run_loadVar_mid w b off ty cs d hc hu hd hi]
theorem wpList_getG (ty : TypeId) (t : Nat) (x : Operand) {b off : Nat} {cs : List Value} {d : TypeDesc} (hd0 : o.dst = some t) (hw : Region.wanted o (yielded ops a.tmps) = true) (ho : o.op = .load ty x) (hx : a.eval x = .pointer (some ⟨b, off, none⟩)) (hc : w.rangeAt b off cs)
    (hu : P.underlying ty = some d) (hd : d.isRow = true) (hi : (P.info? ty).map (·.size) = some cs.length) (h : wpList P ops Q rest (a.put (some t) (.agg ⟨cs⟩)) w) : wpList P ops Q (o :: rest) a w :=
  list_value hd0 hw (run_rows ty x ho hx hc hu hd hi) h
end
end Go.Proofs.Ytjimjdhdnkhfnaa
namespace Go.Proofs.Ytjimjdhdnkhfnaa
open Go Go.RowKit
set_option maxHeartbeats 400000
set_option maxRecDepth 100000
theorem own_keepB {w w' : World} {base B : Nat} {e : TypeId} {size n : Nat} {v : Value} {xs : List Value} (h : w.ownsRow base e size v n xs) (hb : ∀ g, v.ownBlock = some g → g < w.heap.size → w'.heap[g]? = w.heap[g]?) : w'.ownsRow base e size v n xs := by
  refine ⟨h.1, ?_⟩
  rcases h.2 with h2 | ⟨g, cap, cur, hv, hg, hc, r⟩
  · exact .inl h2
  · exact .inr ⟨g, cap, cur, hv, hg, (hb g (by rw [hv]; rfl) (Array.getElem?_eq_some_iff.1 hc).1).trans hc, r⟩
structure OI (w : World) (base : Nat) (v : Value) (l : List Int) : Prop where
  h : w.ownsRow base 3 1 v l.length (ints l)
section
variable {w w' : World} {base b : Nat} {v : Value} {l : List Int}
theorem OI.nil (w : World) (base : Nat) : OI w base (.slice none 0 0) [] := ⟨World.ownsRow_nil _ _ _ _⟩
theorem OI.keep (h : OI w base v l) (hb : Below w.heap.size w w') : OI w' base v l := ⟨own_keepB (B := 0) h.h fun g _ hlt => hb.block g hlt⟩
theorem OI.put (h : OI w base v l) (p : Put w b w') (hb : b < base) : OI w' base v l :=
  ⟨own_keepB (B := 0) h.h fun g hg _ => p.block g (fun e => by
    rcases h.h.2 with ⟨rfl, _⟩ | ⟨g', cap, cur, rfl, hge, _⟩
    · simp [Value.ownBlock] at hg
    · simp [Value.ownBlock] at hg; omega)⟩
theorem OI.is (h : OI w base v l) : ∃ A c, v = .slice A l.length c ∧ l.length ≤ c ∧ Is w A l.length l ∧ ∀ p, A = some p → base ≤ p.block := by
  obtain ⟨A, c, rfl, hnc, his⟩ := Is.of_own h.h
  refine ⟨A, c, rfl, hnc, his, ?_⟩
  rintro p rfl
  rcases h.h.2 with ⟨h1, h2⟩ | ⟨g, cap, cur, h1, h2, _⟩
  · cases h1
  · cases h1; exact h2
theorem OI.mono (h : OI w base v l) {base' : Nat} (hb : base' ≤ base) : OI w base' v l := by
  refine ⟨h.h.1, ?_⟩
  rcases h.h.2 with h2 | ⟨g, cap, cur, hv, hg, r⟩
  · exact .inl h2
  · exact .inr ⟨g, cap, cur, hv, Nat.le_trans hb hg, r⟩
end
theorem Is.put {w w' : World} {A : Option Addr} {n b : Nat} {gs : List Int} (h : Is w A n gs) (p : Put w b w') (hA : ∀ q, A = some q → q.block ≠ b) : Is w' A n gs :=
  ⟨h.len, h.small, fun k hk => by
    obtain ⟨b2, o, e, hlt, hg⟩ := h.get k hk
    have hne := hA _ e
    exact ⟨b2, o, e, by rw [p.size]; exact hlt, (World.cell?_of_block (a := ⟨b2, o + k, none⟩) (p.block b2 hne)).trans hg⟩⟩
section
variable {ops : Array Oper} {rest : List Oper} {o : Oper} {a : Act} {w : World} {Q : Exit → Act → World → Prop}
end
section
variable {P : Program} {ops : Array Oper} {rest : List Oper} {o : Oper} {a : Act} {X : World} {Q : Exit → Act → World → Prop} {t : TypeId} {old : List Value}
theorem wpList_putNew (ty : TypeId) (p s : Tmp) (hg : o.guard = none) (ho : o.op = .store ty (.tmp p) (.tmp s)) {cs : Array Value} (hx : a.eval (.tmp p) = .pointer (some ⟨X.heap.size, 0, none⟩))
    (hy : a.eval (.tmp s) = .agg cs) (hi : (P.info? ty).map (·.size) = some cs.size) (hold : old.length = cs.size) (h1 : cs.all (·.oneCell') = true)
    (h : ∀ U, Bx U X.heap.size t cs.toList → Below X.heap.size X U → U.heap.size = X.heap.size + 1 → wpList P ops Q rest (a.put o.dst undef) U) : wpList P ops Q (o :: rest) a (X.alloc (.cells ⟨old⟩ t)) :=
  wpList_put ty p s hg ho (Bx.new X old t) hx hy hi hold h1 fun U K hp => h U K ((up_alloc X _).trans (hp.below (Nat.le_refl _))) (by rw [hp.size]; simp)
end
section
variable {F : Fence} {n : Nat} {P : Program} {ops : Array Oper} {rest : List Oper} {o : Oper} {a : Act} {w : World} {Q : Exit → Act → World → Prop}
theorem wpListIn_getAt (ty : TypeId) (x : Operand) (hg : o.guard = none) (ho : o.op = .load ty x) {b off : Nat} {cs : List Value} (hc : w.rangeAt b off cs) (hx : a.eval x = .pointer (some ⟨b, off, none⟩)) {d : TypeDesc}
    (hu : P.underlying ty = some d) (hd : d.isRow = true) (hi : (P.info? ty).map (·.size) = some cs.length)
    (h : wpListIn F n P ops Q rest (a.put o.dst (.agg ⟨cs⟩)) w) : wpListIn F n P ops Q (o :: rest) a w := by
  refine wpListIn_plain hg fun K hK => ?_
  unfold Oper.wpIn
  refine ⟨fun f hf => ?_, ?_⟩
  · simp [Oper.about, ho] at hf
  · rw [Oper.semAt_eq _ _ _ (by simp [ho]), run_rows ty x ho hx hc hu hd hi]; exact hK _ _ h
end
theorem flat_at {k : Nat} : ∀ {L : List (List Value)}, (∀ x ∈ L, x.length = k) → ∀ {i : Nat} (hi : i < L.length) {j : Nat}, j < k → L.flatten[i * k + j]? = L[i][j]?
  | [], _, i, hi, j, _ => by simp at hi
  | x :: r, hw, 0, hi, j, hj => by
      rw [List.flatten_cons, Nat.zero_mul, Nat.zero_add, List.getElem?_append_left (by rw [hw x (by simp)]; exact hj)]; rfl
  | x :: r, hw, i + 1, hi, j, hj => by
      have hx := hw x (by simp)
      rw [List.flatten_cons, List.getElem?_append_right (by rw [hx, Nat.add_mul]; omega), hx, show (i + 1) * k + j - k = i * k + j by rw [Nat.add_mul]; omega]
      rw [flat_at (fun y hy => hw y (by simp [hy])) (by simpa using hi) hj]; rfl
theorem flat_len {k : Nat} : ∀ {L : List (List Value)}, (∀ x ∈ L, x.length = k) → L.flatten.length = L.length * k
  | [], _ => by simp
  | x :: r, hw => by
      rw [List.flatten_cons, List.length_append, hw x (by simp), flat_len (fun y hy => hw y (by simp [hy])), List.length_cons, Nat.add_mul]; omega
structure OV (w : World) (base : Nat) (e : TypeId) (k : Nat) (v : Value) (L : List (List Value)) : Prop where
  h : w.ownsRow base e k v L.length L.flatten
  wid : ∀ x ∈ L, x.length = k
section
variable {w w' : World} {base b k : Nat} {e : TypeId} {v : Value} {L : List (List Value)}
theorem OV.nil (w : World) (base : Nat) (e : TypeId) (k : Nat) : OV w base e k (.slice none 0 0) [] := ⟨World.ownsRow_nil _ _ _ _, fun x h => absurd h (by simp)⟩
theorem OV.keep (h : OV w base e k v L) (hb : Below w.heap.size w w') : OV w' base e k v L := ⟨own_keepB (B := 0) h.h fun g _ hlt => hb.block g hlt, h.wid⟩
theorem OV.put (h : OV w base e k v L) (p : Put w b w') (hb : b < base) : OV w' base e k v L :=
  ⟨own_keepB (B := 0) h.h fun g hg _ => p.block g (fun e => by
    rcases h.h.2 with ⟨rfl, _⟩ | ⟨g', cap, cur, rfl, hge, _⟩
    · simp [Value.ownBlock] at hg
    · simp [Value.ownBlock] at hg; omega), h.wid⟩
theorem OV.rows (h : OV w base e k v L) : ∃ A c, v = .slice A L.length c ∧ L.length ≤ c ∧ c ≤ maxLen ∧ (∀ i (hi : i < L.length), ∃ g, A = some ⟨g, 0, none⟩ ∧ g < w.heap.size ∧ w.rangeAt g (i * k) L[i]) ∧ ∀ p, A = some p → base ≤ p.block := by
  rcases h.h.2 with ⟨rfl, h0⟩ | ⟨g, cap, cur, rfl, hge, hg, hnc, hcm, hcs, htk⟩
  · exact ⟨none, 0, by rw [h0], by omega, by omega, fun i hi => by omega, fun p hp => by cases hp⟩
  · refine ⟨some ⟨g, 0, none⟩, cap, rfl, hnc, hcm, fun i hi => ⟨g, rfl, (Array.getElem?_eq_some_iff.1 hg).1, fun j u hu => ?_⟩, fun p hp => by cases hp; exact hge⟩
    have hx := h.wid _ (List.getElem_mem hi)
    have hj : j < k := by have := (List.getElem?_eq_some_iff.1 hu).1; omega
    have := h.h.cells (g := g) rfl (i * k + j) u (by rw [flat_at h.wid hi hj]; exact hu)
    rw [Addr.add_lit] at this; simpa using this
def OR (w : World) (base : Nat) (e : TypeId) (k : Nat) (v : Value) (L : List (List Int)) : Prop := OV w base e k v (L.map ints)
theorem OR.rw {L : List (List Int)} (h : OR w base e k v L) : ∃ A c, v = .slice A L.length c ∧ L.length ≤ c ∧ Rw w A L.length k L ∧ ∀ p, A = some p → base ≤ p.block := by
  obtain ⟨A, c, e1, h1, h2, h3, h4⟩ := OV.rows h
  rw [List.length_map] at e1 h1
  refine ⟨A, c, e1, h1, ⟨rfl, by unfold maxLen at h2; omega, fun x hx => ?_, fun i hi => ?_⟩, h4⟩
  · have := h.wid (ints x) (List.mem_map.2 ⟨x, hx, rfl⟩); rwa [ints_len] at this
  · obtain ⟨g, e2, h5, h6⟩ := h3 i (by simpa using hi)
    exact ⟨g, 0, e2, h5, by rw [Nat.zero_add]; simpa using h6⟩
end
section
variable {ops : Array Oper} {rest : List Oper} {o : Oper} {a : Act} {w : World} {Q : Exit → Act → World → Prop}
end
theorem cells7 {w : World} {b o : Nat} {p0 p1 p2 p3 p4 p5 p6 : Int} (h : w.rangeAt b o (ints [p0, p1, p2, p3, p4, p5, p6])) : w.cell? ⟨b, o, none⟩ = some (.int .i64 p0) ∧ w.cell? ⟨b, o + 1, none⟩ = some (.int .i64 p1) ∧ w.cell? ⟨b, o + 2, none⟩ = some (.int .i64 p2) ∧ w.cell? ⟨b, o + 3, none⟩ = some (.int .i64 p3) ∧ w.cell? ⟨b, o + 4, none⟩ = some (.int .i64 p4) ∧ w.cell? ⟨b, o + 5, none⟩ = some (.int .i64 p5) ∧ w.cell? ⟨b, o + 6, none⟩ = some (.int .i64 p6) :=
  ⟨h 0 _ rfl, h 1 _ rfl, h 2 _ rfl, h 3 _ rfl, h 4 _ rfl, h 5 _ rfl, h 6 _ rfl⟩
theorem cells9 {w : World} {b o : Nat} {p0 p1 p2 p3 p4 p5 p6 p7 p8 : Int} (h : w.rangeAt b o (ints [p0, p1, p2, p3, p4, p5, p6, p7, p8])) : w.cell? ⟨b, o, none⟩ = some (.int .i64 p0) ∧ w.cell? ⟨b, o + 1, none⟩ = some (.int .i64 p1) ∧ w.cell? ⟨b, o + 2, none⟩ = some (.int .i64 p2) ∧ w.cell? ⟨b, o + 3, none⟩ = some (.int .i64 p3) ∧ w.cell? ⟨b, o + 4, none⟩ = some (.int .i64 p4) ∧ w.cell? ⟨b, o + 5, none⟩ = some (.int .i64 p5) ∧ w.cell? ⟨b, o + 6, none⟩ = some (.int .i64 p6) ∧ w.cell? ⟨b, o + 7, none⟩ = some (.int .i64 p7) ∧ w.cell? ⟨b, o + 8, none⟩ = some (.int .i64 p8) :=
  ⟨h 0 _ rfl, h 1 _ rfl, h 2 _ rfl, h 3 _ rfl, h 4 _ rfl, h 5 _ rfl, h 6 _ rfl, h 7 _ rfl, h 8 _ rfl⟩
theorem list24 {l : List Int} (h : l.length = 24) : ∃ p0 p1 p2 p3 p4 p5 p6 p7 p8 p9 p10 p11 p12 p13 p14 p15 p16 p17 p18 p19 p20 p21 p22 p23, l = [p0, p1, p2, p3, p4, p5, p6, p7, p8, p9, p10, p11, p12, p13, p14, p15, p16, p17, p18, p19, p20, p21, p22, p23] := by
  match l, h with | [p0, p1, p2, p3, p4, p5, p6, p7, p8, p9, p10, p11, p12, p13, p14, p15, p16, p17, p18, p19, p20, p21, p22, p23], _ => exact ⟨p0, p1, p2, p3, p4, p5, p6, p7, p8, p9, p10, p11, p12, p13, p14, p15, p16, p17, p18, p19, p20, p21, p22, p23, rfl⟩
theorem sz_n {l : List Int} (h : l.length = 7) : (Try.prog.info? 49).map (·.size) = some (ints l).length := by rw [ints_len, h]; kernel_rfl
theorem sz_h {l : List Int} (h : l.length = 9) : (Try.prog.info? 35).map (·.size) = some (ints l).length := by rw [ints_len, h]; kernel_rfl
theorem sz_t {l : List Int} (h : l.length = 24) : (Try.prog.info? 70).map (·.size) = some (ints l).length := by rw [ints_len, h]; kernel_rfl
theorem sa_n {l : List Int} (h : l.length = 7) : (Try.prog.info? 49).map (·.size) = some (⟨ints l⟩ : Array Value).size := sz_n h
theorem sa_h {l : List Int} (h : l.length = 9) : (Try.prog.info? 35).map (·.size) = some (⟨ints l⟩ : Array Value).size := sz_h h
theorem sa_t {l : List Int} (h : l.length = 24) : (Try.prog.info? 70).map (·.size) = some (⟨ints l⟩ : Array Value).size := sz_t h
def tld (h : List Int) (A : Option Addr) (n c : Nat) (B : Option Addr) (m d : Nat) (kn : Int) (lt : List Int) : List Value := ints h ++ ([.slice A n c, .slice B m d, .int .i64 kn] ++ ints lt)
section
variable {h : List Int} {A : Option Addr} {n c : Nat} {B : Option Addr} {m d : Nat} {kn : Int} {lt : List Int}
theorem tld_len (hh : h.length = 9) (hl : lt.length = 4) : (tld h A n c B m d kn lt).length = 16 := by simp [tld, ints_len, hh, hl]
theorem tld_h (hh : h.length = 9) {j : Nat} (hj : j < 9) : (tld h A n c B m d kn lt)[j]? = some (.int .i64 (h.getD j 0)) := by
  unfold tld; rw [List.getElem?_append_left (by rw [ints_len]; omega)]; exact ints_get (by omega)
theorem tld_9 (hh : h.length = 9) : (tld h A n c B m d kn lt)[9]? = some (.slice A n c) := by
  unfold tld; rw [List.getElem?_append_right (by rw [ints_len]; omega), ints_len, hh]; rfl
theorem tld_10 (hh : h.length = 9) : (tld h A n c B m d kn lt)[10]? = some (.slice B m d) := by
  unfold tld; rw [List.getElem?_append_right (by rw [ints_len]; omega), ints_len, hh]; rfl
theorem tld_11 (hh : h.length = 9) : (tld h A n c B m d kn lt)[11]? = some (.int .i64 kn) := by
  unfold tld; rw [List.getElem?_append_right (by rw [ints_len]; omega), ints_len, hh]; rfl
theorem tld_l (hh : h.length = 9) {j : Nat} (hj : j < lt.length) : (tld h A n c B m d kn lt)[12 + j]? = some (.int .i64 (lt.getD j 0)) := by
  unfold tld
  rw [List.getElem?_append_right (by rw [ints_len]; omega), ints_len, hh, List.getElem?_append_right (by simp; omega)]
  simp only [List.length_cons, List.length_nil]
  rw [show 12 + j - 9 - 3 = j by omega]; exact ints_get hj
theorem sz_tld (hh : h.length = 9) (hl : lt.length = 4) : (Try.prog.info? 73).map (·.size) = some (tld h A n c B m d kn lt).length := by rw [tld_len hh hl]; kernel_rfl
end
end Go.Proofs.Ytjimjdhdnkhfnaa
namespace Go.Proofs.Ytjimjdhdnkhfnaa
open Go Go.RowKit
set_option maxHeartbeats 400000
section
variable {F : Fence} {n : Nat} {P : Program} {ops : Array Oper} {rest : List Oper} {o : Oper} {a : Act} {w X : World} {Q : Exit → Act → World → Prop} {t : TypeId}
theorem wpListIn_put {b : Nat} (ty : TypeId) (p s : Tmp) (hg : o.guard = none) (ho : o.op = .store ty (.tmp p) (.tmp s)) {old : List Value} {cs : Array Value} (K : Bx w b t old) (hx : a.eval (.tmp p) = .pointer (some ⟨b, 0, none⟩))
    (hy : a.eval (.tmp s) = .agg cs) (hi : (P.info? ty).map (·.size) = some cs.size) (hold : old.length = cs.size) (h1 : cs.all (·.oneCell') = true)
    (h : ∀ U, Bx U b t cs.toList → Put w b U → wpListIn F n P ops Q rest (a.put o.dst undef) U) : wpListIn F n P ops Q (o :: rest) a w := by
  refine wpListIn_plain hg fun Kk hK => ?_
  have hr : (execOp a.eval o).run P w = .ok .skip (w.setRow b cs) := by
    unfold execOp
    simp only [ho, hx, hy, Instr.storeAt, Instr.sureAddr, Sem.run_bind, Sem.run_pure, Result.andThen_ok, run_storeVar_row w b t ty _ cs K.h hi (by simpa using hold) h1]
  unfold Oper.wpIn
  refine ⟨fun f hf => ?_, ?_⟩
  · simp [Oper.about, ho] at hf
  · rw [Oper.semAt_eq _ _ _ (by simp [ho]), hr]
    exact hK _ _ (h _ (K.row cs) (Put.row w b cs))
theorem wpListIn_putNew (ty : TypeId) (p s : Tmp) (hg : o.guard = none) (ho : o.op = .store ty (.tmp p) (.tmp s)) {old : List Value} {cs : Array Value} (hx : a.eval (.tmp p) = .pointer (some ⟨X.heap.size, 0, none⟩))
    (hy : a.eval (.tmp s) = .agg cs) (hi : (P.info? ty).map (·.size) = some cs.size) (hold : old.length = cs.size) (h1 : cs.all (·.oneCell') = true)
    (h : ∀ U, Bx U X.heap.size t cs.toList → Below X.heap.size X U → U.heap.size = X.heap.size + 1 → wpListIn F n P ops Q rest (a.put o.dst undef) U) : wpListIn F n P ops Q (o :: rest) a (X.alloc (.cells ⟨old⟩ t)) :=
  wpListIn_put ty p s hg ho (Bx.new X old t) hx hy hi hold h1 fun U K hp => h U K ((up_alloc X _).trans (hp.below (Nat.le_refl _))) (by rw [hp.size]; simp)
theorem wpListIn_get {b : Nat} (ty : TypeId) (p : Tmp) (hg : o.guard = none) (ho : o.op = .load ty (.tmp p)) {cs : List Value} (K : Bx w b t cs) (hx : a.eval (.tmp p) = .pointer (some ⟨b, 0, none⟩)) {d : TypeDesc}
    (hu : P.underlying ty = some d) (hd : d.isRow = true) (hi : (P.info? ty).map (·.size) = some cs.length)
    (h : wpListIn F n P ops Q rest (a.put o.dst (.agg ⟨cs⟩)) w) : wpListIn F n P ops Q (o :: rest) a w :=
  wpListIn_getAt ty (.tmp p) hg ho K.range hx hu hd hi h
end
section
variable {P : Program} {ops : Array Oper} {C : World → Prop} {Q : Act → Prop} {rest : List Oper} {o : Oper} {a : Act}
theorem wpQuiet_row (ty : TypeId) (x : Operand) {b off : Nat} {cs : List Value} {d : TypeDesc} (hw : Region.wanted o (yielded ops a.tmps) = true) (ho : o.op = .load ty x) (hx : a.eval x = .pointer (some ⟨b, off, none⟩)) (hC : ∀ w, C w → w.rangeAt b off cs)
    (hu : P.underlying ty = some d) (hd : d.isRow = true) (hi : (P.info? ty).map (·.size) = some cs.length) (h : wpQuiet P ops C Q rest (a.put o.dst (.agg ⟨cs⟩))) : wpQuiet P ops C Q (o :: rest) a :=
  BigFrame.wpQuiet_want hw fun K hK => ⟨_, fun w hw' => by unfold Oper.quietAt; rw [run_rows ty x ho hx (hC w hw') hu hd hi]; exact ⟨rfl, rfl⟩, hK _ h⟩
end
end Go.Proofs.Ytjimjdhdnkhfnaa
namespace Go.Proofs.Ytjimjdhdnkhfnaa
open Go Go.RowKit
set_option maxHeartbeats 2000000
set_option maxRecDepth 100000
def leaS (x acc : Int) (n : List Int) : Int := if (n.getD 2 0 == x && (decide (acc < 0) || decide (n.getD 4 0 < acc))) = true then n.getD 4 0 else acc
def leaN (x : Int) (N : List (List Int)) : Int := N.foldl (leaS x) (-1)
def stoN (N : List (List Int)) : Int := if (decide (leaN 1 N < 0) || (decide (leaN 3 N ≥ 0) && decide (leaN 3 N < leaN 1 N))) = true then leaN 3 N else leaN 1 N
end Go.Proofs.Ytjimjdhdnkhfnaa
namespace Go.Proofs.Ytjimjdhdnkhfnaa
open Go Go.RowKit
set_option maxHeartbeats 2000000
set_option maxRecDepth 100000
def owrS (a : Int × Int) (n : List Int) : Int × Int := if (n.getD 2 0 == 3 && decide (n.getD 5 0 ≥ a.1)) = true then (n.getD 5 0, n.getD 3 0) else a
def owrT (x : Int) (n : List Int) (a : Int) : Int := if (n.getD 2 0 == 1 && n.getD 4 0 == x) = true then n.getD 3 0 else a
def owrN (N : List (List Int)) : Int := if 0 < (N.foldl owrS (-1, 0)).2 then (N.foldl owrS (-1, 0)).2 else N.foldr (owrT (leaN 1 N)) (N.foldl owrS (-1, 0)).2
end Go.Proofs.Ytjimjdhdnkhfnaa
namespace Go.Proofs.Ytjimjdhdnkhfnaa
open Go Go.RowKit
set_option maxHeartbeats 1000000
set_option maxRecDepth 100000
theorem within_any (n lo hi : Int) (w : World) :
    Calls Try.prog 72 #[.int .i64 n, .int .i64 lo, .int .i64 hi] w fun e w' => e = .returned (.bool (inB n lo hi)) ∧ w = w' := by
  by_cases h : lo ≤ n <;> (go_enter Try.func72, Try.ntmps72; go_wp2; go_ret; exact ⟨by simp [inB, h] <;> omega, rfl⟩)
theorem unless_any (b : Bool) (n : Int) (w : World) :
    Calls Try.prog 49 #[.bool b, .int .i64 n] w fun e w' => e = .returned (.int .i64 (err b n)) ∧ w = w' := by
  cases b <;> (go_enter Try.func49, Try.ntmps49; go_wp2; go_ret; exact ⟨rfl, rfl⟩)
theorem validDay_any (n : Int) (w : World) :
    Calls Try.prog 52 #[.int .i64 n] w fun e w' => e = .returned (.bool (inB n 0 100000)) ∧ w = w' := by
  go_enter Try.func52, Try.ntmps52
  go_wp2_with (go_at_call 72; refine (within_any _ _ _ _).mono ?_; rintro e w' ⟨rfl, rfl⟩)
  go_ret; exact ⟨rfl, rfl⟩
theorem validSource_any (n : Int) (w : World) :
    Calls Try.prog 50 #[.int .i64 n] w fun e w' => e = .returned (.bool (inB n 1 99999)) ∧ w = w' := by
  go_enter Try.func50, Try.ntmps50
  go_wp2_with (go_at_call 72; refine (within_any _ _ _ _).mono ?_; rintro e w' ⟨rfl, rfl⟩)
  go_ret; exact ⟨rfl, rfl⟩
theorem validOwner_any (n : Int) (w : World) :
    Calls Try.prog 64 #[.int .i64 n] w fun e w' => e = .returned (.bool (inB n 1 99)) ∧ w = w' := by
  go_enter Try.func64, Try.ntmps64
  go_wp2_with (go_at_call 72; refine (within_any _ _ _ _).mono ?_; rintro e w' ⟨rfl, rfl⟩)
  go_ret; exact ⟨rfl, rfl⟩
theorem checkDay_any (n : Int) (w : World) :
    Calls Try.prog 31 #[.int .i64 n] w fun e w' => e = .returned (.int .i64 (err (inB n 0 100000) 6)) ∧ w = w' := by
  go_enter Try.func31, Try.ntmps31
  go_wp2_with (first | (go_at_call 52; refine (validDay_any _ _).mono ?_; rintro e w' ⟨rfl, rfl⟩) | (go_at_call 49; refine (unless_any _ _ _).mono ?_; rintro e w' ⟨rfl, rfl⟩))
  go_ret; exact ⟨rfl, rfl⟩
def timB (k u : Int) : Bool := inB k 0 100000 && (u == 0 || inB u (k + 1) 100000)
theorem validTime_any (k u : Int) (w : World) :
    Calls Try.prog 53 #[.int .i64 k, .int .i64 u] w fun e w' => e = .returned (.bool (timB k u)) ∧ w = w' := by
  cases hk : inB k 0 100000
  · have Hk := Lib.hid hk
    have HT : Hid (timB k u = false) := Lib.hid (by unfold timB; rw [hk]; rfl)
    clear hk
    go_enter Try.func53, Try.ntmps53
    go_wp2_with (go_at_call 52; refine (validDay_any _ _).mono ?_; rintro e w' ⟨rfl, rfl⟩; rw [Hk.out])
    go_ret; exact ⟨by rw [HT.out]; rfl, rfl⟩
  · have Hk := Lib.hid hk
    have hkb := inB_iff.1 hk
    have hk1 := hkb.1; have hk2 := hkb.2
    clear hk hkb
    cases hu : (u == 0)
    · have HT : Hid (timB k u = inB u (k + 1) 100000) := Lib.hid (by unfold timB; rw [Hk.out, hu]; rfl)
      go_enter Try.func53, Try.ntmps53
      go_wp2_with (first | (go_at_call 52; refine (validDay_any _ _).mono ?_; rintro e w' ⟨rfl, rfl⟩; rw [Hk.out]) | (go_at_call 72; refine (within_any _ _ _ _).mono ?_; rintro e w' ⟨rfl, rfl⟩))
      go_ret; exact ⟨by rw [HT.out]; rfl, rfl⟩
    · have HT : Hid (timB k u = true) := Lib.hid (by unfold timB; rw [Hk.out, hu]; rfl)
      go_enter Try.func53, Try.ntmps53
      go_wp2_with (first | (go_at_call 52; refine (validDay_any _ _).mono ?_; rintro e w' ⟨rfl, rfl⟩; rw [Hk.out]) | (go_at_call 72; refine (within_any _ _ _ _).mono ?_; rintro e w' ⟨rfl, rfl⟩))
      go_ret; exact ⟨by rw [HT.out]; rfl, rfl⟩
theorem partyOf_any (n : Int) (w : World) (h0 : 0 ≤ n) (h1 : n ≤ 1000000) :
    Calls Try.prog 34 #[.int .i64 n] w fun e w' => e = .returned (.int .i64 (2 + n)) ∧ w = w' := by
  go_enter Try.func34, Try.ntmps34; go_wp2; go_ret; exact ⟨rfl, rfl⟩
theorem checkOwner_any (n : Int) (w : World) :
    Calls Try.prog 30 #[.int .i64 n] w fun e w' => e = .returned (.int .i64 (err (inB n 1 99) 1)) ∧ w = w' := by
  go_enter Try.func30, Try.ntmps30
  go_wp2_with (first | (go_at_call 64; refine (validOwner_any _ _).mono ?_; rintro e w' ⟨rfl, rfl⟩) | (go_at_call 49; refine (unless_any _ _ _).mono ?_; rintro e w' ⟨rfl, rfl⟩))
  go_ret; exact ⟨rfl, rfl⟩
def cntB (k u d : Int) : Bool := decide (k ≤ d) && (u == 0 || decide (u > d))
theorem counts_any (k u d : Int) (w : World) :
    Calls Try.prog 35 #[.int .i64 k, .int .i64 u, .int .i64 d] w fun e w' => e = .returned (.bool (cntB k u d)) ∧ w = w' := by
  by_cases h1 : k ≤ d
  · cases h2 : (u == 0) <;> (go_enter Try.func35, Try.ntmps35; go_wp2; go_ret; exact ⟨by simp [cntB, h1, h2] <;> omega, rfl⟩)
  · go_enter Try.func35, Try.ntmps35; go_wp2; go_ret; exact ⟨by simp [cntB, h1] <;> omega, rfl⟩
end Go.Proofs.Ytjimjdhdnkhfnaa
namespace Go.Proofs.Ytjimjdhdnkhfnaa
open Go Go.RowKit Go.Shelf
attribute [local go_sem] Oper.semAt_some
set_option maxHeartbeats 1000000
set_option maxRecDepth 100000
def enc1 (x : Int) : Array Value := #[.int .i64 x]
def dayK (f : Int) (k : Nat) : List Int := (List.range k).map fun (i : Nat) => f + (i : Int)
def dayL (f l : Int) : List Int := dayK f (l - f + 1).toNat
theorem dayK_succ (f : Int) (k : Nat) : dayK f (k + 1) = dayK f k ++ [f + (k : Int)] := by simp [dayK, List.range_succ]
theorem dayK_pre (f : Int) (k j : Nat) : ∃ t, dayK f (k + j) = dayK f k ++ t := by
  induction j with
  | zero => exact ⟨[], by simp⟩
  | succ j ih => obtain ⟨t, h⟩ := ih; exact ⟨t ++ [f + ((k + j : Nat) : Int)], by rw [← Nat.add_assoc, dayK_succ, h, List.append_assoc]⟩
theorem daysFrom_any (f l : Int) (w : World) :
    Calls Try.prog 78 #[.int .i64 f, .int .i64 l] w fun e w' => e = .returned (.func (.func 84) #[] #[.pointer (some ⟨w.heap.size, 0, none⟩), .pointer (some ⟨w.heap.size + 1, 0, none⟩)]) ∧ Below w.heap.size w w' ∧
      Bx w' w.heap.size 3 [.int .i64 f] ∧ Bx w' (w.heap.size + 1) 3 [.int .i64 l] := by
  go_enter Try.func78, Try.ntmps78
  go_upto_region 1 with fail
  generalize hW : (World.alloc _ _) = W
  have HB : Hid (Below w.heap.size w W) := Lib.hid (by subst hW; go_grown)
  have KF : Bx W (w.heap.size) 3 [.int .i64 f] := by subst hW; repeat (first | (refine Bx.newAt _ _ _ ?_; first | rfl | (simp only [World.size_alloc]; done) | (simp only [World.size_alloc]; omega)) | refine Bx.old ?_ _)
  have KL : Bx W (w.heap.size + 1) 3 [.int .i64 l] := by subst hW; repeat (first | (refine Bx.newAt _ _ _ ?_; first | rfl | (simp only [World.size_alloc]; done) | (simp only [World.size_alloc]; omega)) | refine Bx.old ?_ _)
  have hWs : Hid (W.heap.size = w.heap.size + 1 + 1) := Lib.hid (by subst hW; simp)
  clear hW
  have KFl := KF.lt; have KFc := KF.get; have KFf := KF.fr; have KLl := KL.lt; have KLc := KL.get; have KLf := KL.fr
  go_wp2
  go_ret
  exact ⟨rfl, HB.out, KF, KL⟩
theorem days_iter (bF bL : Nat) (f l : Int) (w : World) (hf : -1000000000 ≤ f) (hl : l ≤ 1000000000) :
    Iter Try.prog 84 #[] #[.pointer (some ⟨bF, 0, none⟩), .pointer (some ⟨bL, 0, none⟩)] enc1 (fun _ _ _ => True) (fun X => Bx X bF 3 [.int .i64 f] ∧ Bx X bL 3 [.int .i64 l])
      (fun xs => xs = dayL f l) (fun pre => ∃ t, dayL f l = pre ++ t) w := by
  intro N y J Jx W hn hW hJ hK hY h0
  refine callsIn_of_wp Try.func84 rfl trivial ?_ rfl
  simp only [Try.ntmps84, List.size_toArray, List.length_cons, List.length_nil, Nat.reduceAdd, Nat.reduceSub, Array.replicate_succ, Array.replicate_zero, List.push_toArray, List.append_toArray, List.nil_append, List.cons_append, List.append_nil]
  have HJ := Lib.hid hJ
  have HY := Lib.hid hY
  have HK := Lib.hid hK
  obtain ⟨kf, kl⟩ := hK [] W h0
  obtain ⟨M, hM⟩ : ∃ M, (l - f + 1).toNat = M := ⟨_, rfl⟩
  have HD : Hid (dayL f l = dayK f M) := Lib.hid (by unfold dayL; rw [hM])
  clear hJ hY hK
  have kfl := kf.lt; have kfc := kf.get; have kff := kf.fr; have kll := kl.lt; have klc := kl.get; have klf := kl.fr
  gi_wp2
  clear kfl kfc kff kll klc klf kf kl
  gi_loopw [4] (fun s wr => ∃ (k : Nat), k ≤ M ∧ s = .int .i64 (f + (k : Int)) ∧ J (dayK f k) wr ∧ W.heap.size ≤ wr.heap.size) (fun s _ => (f + (M : Int) - intOf s).toNat)
  case atStart => exact ⟨0, by omega, by simp, h0, by omega⟩
  case round =>
    obtain ⟨k, hk, rfl, hjp, hsz⟩ := hrel
    obtain ⟨kf, kl⟩ := HK.out _ _ hjp
    have kll := kl.lt; have klc := kl.get; have klf := kl.fr
    clear kf
    by_cases hlt : k < M
    · have hle : f + (k : Int) ≤ l := by omega
      have Hs := Lib.hid (dayK_succ f k)
      obtain ⟨t, ht⟩ := dayK_pre f (k + 1) (M - (k + 1))
      rw [show k + 1 + (M - (k + 1)) = M by omega] at ht
      have Ht := Lib.hid ht
      obtain ⟨fn, tmps, assign, body, hy, hR⟩ := HY.out (dayK f k) (f + (k : Int)) wr ⟨t, by rw [← Hs.out, HD.out]; exact ht⟩ trivial hjp hsz
      clear ht
      dsimp only [enc1] at hy
      gi_wp2
      refine ⟨fun h => (by cases h), hR.mono ?_⟩
      rintro e W' (⟨rfl, hJ', hAb⟩ | ⟨rfl, hJx'⟩)
      · have hs2 : W.heap.size ≤ W'.heap.size := by have := hAb.size; omega
        have HJ' := Lib.hid hJ'
        clear hJ' hR hy kll klc klf kl
        gi_wp2
        refine ⟨⟨k + 1, by omega, by go_num, ?_, hs2⟩, by simp [intOf]; omega⟩
        rw [Hs.out]; exact HJ'.out
      · have HJx := Lib.hid hJx'
        clear hJx' hR hy kll klc klf kl
        gi_wp2
        refine bodyPost_ret (results_none rfl _ _ _) rfl ⟨⟨_, rfl⟩, .inr ⟨_, ?_, HJx.out⟩⟩
        exact ⟨t, by rw [HD.out, ← Hs.out]; exact Ht.out⟩
    · obtain rfl : k = M := by omega
      have hle : ¬ f + (k : Int) ≤ l := by omega
      gi_wp2
      refine bodyPost_end (results_none rfl _ _ _) rfl ⟨⟨_, rfl⟩, .inl ?_⟩
      first | exact ⟨_, HD.out.symm, hjp⟩ | (rw [HD.out]; exact hjp)
end Go.Proofs.Ytjimjdhdnkhfnaa
namespace Go.Proofs.Ytjimjdhdnkhfnaa
open Go Go.RowKit Go.Shelf
attribute [local go_sem] Oper.semAt_some
set_option maxHeartbeats 1000000
set_option maxRecDepth 100000
def encT (x : Int × List Int) : Array Value := #[.int .i64 x.1, .agg ⟨ints x.2⟩]
def bakK (T : List (List Int)) (k : Nat) : List (Int × List Int) := (List.range k).map fun (i : Nat) => ((T.length : Int) - 1 - (i : Int), T.getD (T.length - 1 - i) [])
theorem bakK_succ (T : List (List Int)) (k : Nat) : bakK T (k + 1) = bakK T k ++ [((T.length : Int) - 1 - (k : Int), T.getD (T.length - 1 - k) [])] := by simp [bakK, List.range_succ]
theorem bakK_pre (T : List (List Int)) (k j : Nat) : ∃ t, bakK T (k + j) = bakK T k ++ t := by
  induction j with
  | zero => exact ⟨[], by simp⟩
  | succ j ih => obtain ⟨t, h⟩ := ih; exact ⟨t ++ [((T.length : Int) - 1 - ((k + j : Nat) : Int), T.getD (T.length - 1 - (k + j)) [])], by rw [← Nat.add_assoc, bakK_succ, h, List.append_assoc]⟩
theorem Backward_any (A : Option Addr) (n c : Nat) (w : World) :
    Calls Try.prog 79 #[.slice A n c] w fun e w' => e = .returned (.func (.func 85) #[] #[.pointer (some ⟨w.heap.size, 0, none⟩)]) ∧ Below w.heap.size w w' ∧ Bx w' w.heap.size 28 [.slice A n c] := by
  go_enter Try.func79, Try.ntmps79
  go_upto_region 1 with fail
  generalize hW : (World.alloc _ _) = W
  have HB : Hid (Below w.heap.size w W) := Lib.hid (by subst hW; go_grown)
  have KF : Bx W (w.heap.size) 28 [.slice A n c] := by subst hW; repeat (first | (refine Bx.newAt _ _ _ ?_; first | rfl | (simp only [World.size_alloc]; done) | (simp only [World.size_alloc]; omega)) | refine Bx.old ?_ _)
  have hWs : Hid (W.heap.size = w.heap.size + 1) := Lib.hid (by subst hW; simp)
  clear hW
  have KFl := KF.lt; have KFc := KF.get; have KFf := KF.fr
  go_wp2
  go_ret
  exact ⟨rfl, HB.out, KF⟩
theorem back_iter (bS : Nat) (A : Option Addr) (n c : Nat) (T : List (List Int)) (w : World) :
    Iter Try.prog 85 #[] #[.pointer (some ⟨bS, 0, none⟩)] encT (fun _ x _ => x.2.length = 24) (fun X => Bx X bS 28 [.slice A n c] ∧ Rw X A n 24 T)
      (fun xs => xs = bakK T T.length) (fun pre => ∃ t, bakK T T.length = pre ++ t) w := by
  intro N y J Jx W hn hW hJ hK hY h0
  refine callsIn_of_wp Try.func85 rfl trivial ?_ rfl
  simp only [Try.ntmps85, List.size_toArray, List.length_cons, List.length_nil, Nat.reduceAdd, Nat.reduceSub, Array.replicate_succ, Array.replicate_zero, List.push_toArray, List.append_toArray, List.nil_append, List.cons_append, List.append_nil]
  have HJ := Lib.hid hJ
  have HY := Lib.hid hY
  have HK := Lib.hid hK
  obtain ⟨kf, kT⟩ := hK [] W h0
  have Hn : Hid (n = T.length) := Lib.hid kT.len
  have hns := kT.small
  clear hJ hY hK kT
  have kfl := kf.lt; have kfc := kf.get; have kff := kf.fr
  gi_wp2
  clear kfl kfc kff kf
  gi_loopw [3] (fun s wr => ∃ (k : Nat), k ≤ n ∧ s = .int .i64 ((n : Int) - 1 - (k : Int)) ∧ J (bakK T k) wr ∧ W.heap.size ≤ wr.heap.size) (fun s _ => (intOf s + 1).toNat)
  case atStart => exact ⟨0, by omega, by simp, h0, by omega⟩
  case round =>
    obtain ⟨k, hk, rfl, hjp, hsz⟩ := hrel
    obtain ⟨kf, kT⟩ := HK.out _ _ hjp
    have kfl := kf.lt; have kfc := kf.get; have kff := kf.fr
    by_cases hlt : k < n
    · have hge : (0 : Int) ≤ (n : Int) - 1 - (k : Int) := by omega
      have hkT : n - 1 - k < T.length := by rw [← Hn.out]; omega
      have Hs := Lib.hid (bakK_succ T k)
      obtain ⟨t, ht⟩ := bakK_pre T (k + 1) (n - (k + 1))
      rw [show k + 1 + (n - (k + 1)) = n by omega] at ht
      have Ht := Lib.hid ht
      obtain ⟨b, o, rfl, hbl, hc⟩ := kT.get _ hkT
      have h24 : (T[n - 1 - k]).length = 24 := kT.at hkT
      have Hg : Hid (T.getD (T.length - 1 - k) [] = T[n - 1 - k]) := Lib.hid (by rw [← Hn.out]; simp [hkT])
      have Hc := Lib.hid hc
      obtain ⟨fn, tmps, assign, body, hy, hR⟩ := HY.out (bakK T k) ((n : Int) - 1 - (k : Int), T[n - 1 - k]) wr ⟨t, by have h1 := Hs.out; rw [Hg.out, ← Hn.out] at h1; rw [← h1, ← Hn.out]; exact ht⟩ h24 hjp hsz
      clear ht hc
      dsimp only [encT] at hy
      generalize T[n - 1 - k] = q at *
      have en : ((n : Int) - 1 - (k : Int)).toNat = n - 1 - k := by omega
      gi_wp2_with (refine wpListIn_getAt 70 (.tmp 15) rfl rfl Hc.out (by rw [← en]; rfl) Try.underlying70 rfl (sz_t h24) ?_)
      refine ⟨fun h => (by cases h), hR.mono ?_⟩
      rintro e W' (⟨rfl, hJ', hAb⟩ | ⟨rfl, hJx'⟩)
      · have hs2 : W.heap.size ≤ W'.heap.size := by have := hAb.size; omega
        have HJ' := Lib.hid hJ'
        clear hJ' hR hy kfl kfc kff kf en
        gi_wp2
        refine ⟨⟨k + 1, by omega, by go_num, ?_, hs2⟩, by simp [intOf]; omega⟩
        have h1 := Hs.out; rw [Hg.out, ← Hn.out] at h1
        rw [h1]; exact HJ'.out
      · have HJx := Lib.hid hJx'
        clear hJx' hR hy kfl kfc kff kf en
        gi_wp2
        refine bodyPost_ret (results_none rfl _ _ _) rfl ⟨⟨_, rfl⟩, .inr ⟨_, ?_, HJx.out⟩⟩
        have h1 := Hs.out; rw [Hg.out, ← Hn.out] at h1
        exact ⟨t, by rw [← h1, ← Hn.out]; exact Ht.out⟩
    · obtain rfl : k = n := by omega
      have hle : ¬ (0 : Int) ≤ (k : Int) - 1 - (k : Int) := by omega
      gi_wp2
      refine bodyPost_end (results_none rfl _ _ _) rfl ⟨⟨_, rfl⟩, .inl ?_⟩
      first | exact ⟨_, by rw [Hn.out], hjp⟩ | (rw [← Hn.out]; exact hjp)
end Go.Proofs.Ytjimjdhdnkhfnaa
namespace Go.Proofs.Ytjimjdhdnkhfnaa
open Go Go.RowKit Go.Shelf
attribute [local go_sem] Oper.semAt_some
set_option maxHeartbeats 2000000
set_option maxRecDepth 100000
def zero24 : List Int := List.replicate 24 0
def ifT (T : List (List Int)) (d : Int) : Option (List Int) := ((bakK T T.length).find? (fun x => decide (x.2.getD 0 0 ≤ d))).map (·.2)
def missT (d : Int) (l : List (Int × List Int)) : Prop := ∀ y ∈ l, ¬ y.2.getD 0 0 ≤ d
theorem ifT_hit {T : List (List Int)} {d : Int} {pre t : List (Int × List Int)} {x : Int × List Int} (h : bakK T T.length = pre ++ [x] ++ t) (hp : missT d pre) (hx : x.2.getD 0 0 ≤ d) : ifT T d = some x.2 := by
  unfold ifT
  rw [h, List.append_assoc, List.find?_append, List.find?_eq_none.2 (fun y hy => by simpa using hp y hy), Option.none_or, List.singleton_append, List.find?_cons_of_pos (by simpa using hx)]
  rfl
theorem ifT_none {T : List (List Int)} {d : Int} (hp : missT d (bakK T T.length)) : ifT T d = none := by
  unfold ifT
  rw [List.find?_eq_none.2 (fun y hy => by simpa using hp y hy)]; rfl
section
variable {P : Program} {fn : Func} {w : World} {b b2 : Nat} {t ty ty2 : TypeId} {cs : List Value} {d : TypeDesc} {v : Value}
theorem results_rc {p q : Tmp} (h : fn.results = #[.cell p ty, .cell q ty2]) (tmps : Array Value) (hp : tmps.getD p undef = .pointer (some ⟨b, 0, none⟩)) (K : Bx w b t cs)
    (hu : P.underlying ty = some d) (hd : (match d with | .struct _ | .array _ _ => true | _ => false) = true) (hi : (P.info? ty).map (·.size) = some cs.length)
    (hq : tmps.getD q undef = .pointer (some ⟨b2, 0, none⟩)) (hv : (loadVar ty2 ⟨b2, 0, none⟩).run P w = .ok v w) :
    (results fn tmps).run P w = .ok (.tuple #[.agg ⟨cs⟩, v]) w := by
  have hp' : tmps[p]?.getD undef = .pointer (some ⟨b, 0, none⟩) := by simpa using hp
  have hq' : tmps[q]?.getD undef = .pointer (some ⟨b2, 0, none⟩) := by simpa using hq
  simp [results, h, hp', hq', asAddr, cell_res K hu hd hi, hv]
end
theorem load_bool {w : World} {b : Nat} {x : Bool} (K : Bx w b 4 [.bool x]) : (loadVar 4 ⟨b, 0, none⟩).run Try.prog w = .ok (.bool x) w := by
  have c := K.get 0
  simp [go_sem, c]
structure ForI (w : World) (A : Option Addr) (n c : Nat) (d : Int) (r : List Int) (b : Bool) (X : World) : Prop where
  bel : Below w.heap.size w X
  kd : Bx X w.heap.size 3 [.int .i64 d]
  kt : Bx X (w.heap.size + 1) 70 (ints r)
  kb : Bx X (w.heap.size + 1 + 1) 4 [.bool b]
  ks : Bx X (w.heap.size + 1 + 1 + 1) 28 [.slice A n c]
theorem ForI.keepB {w X Y : World} {A : Option Addr} {n c : Nat} {d : Int} {r : List Int} {b : Bool} {B : Nat} (h : ForI w A n c d r b X) (hb : Below B X Y) (hB : w.heap.size + 1 + 1 + 1 < B) : ForI w A n c d r b Y :=
  ⟨h.bel.trans (hb.mono (by omega)), h.kd.keepB hb (by omega), h.kt.keepB hb (by omega), h.kb.keepB hb (by omega), h.ks.keepB hb (by omega)⟩
theorem inForce_any (A : Option Addr) (n c : Nat) (T : List (List Int)) (d : Int) (w : World) (hT : Rw w A n 24 T) :
    Calls Try.prog 70 #[.slice A n c, .int .i64 d] w fun e w' => e = .returned (.tuple #[.agg ⟨ints ((ifT T d).getD zero24)⟩, .bool (ifT T d).isSome]) ∧ Below w.heap.size w w' := by
  have HT := Lib.hid hT
  clear hT
  refine (callsIn_wide (n := 9)).1 (callsIn_of_wp_marks Try.func70 rfl trivial ?_ rfl)
  simp only [Try.ntmps70, List.size_toArray, List.length_cons, List.length_nil, Nat.reduceAdd, Nat.reduceSub, Array.replicate_succ, Array.replicate_zero, List.push_toArray, List.append_toArray, List.nil_append, List.cons_append]
  refine wpIn_wide.2 ?_
  go_upto_region 1 with fail
  generalize hW : (World.alloc _ _) = W
  have HB : Hid (Below w.heap.size w W) := Lib.hid (by subst hW; go_grown)
  have KD : Bx W (w.heap.size) 3 [.int .i64 d] := by subst hW; repeat (first | (refine Bx.newAt _ _ _ ?_; first | rfl | (simp only [World.size_alloc]; done) | (simp only [World.size_alloc]; omega)) | refine Bx.old ?_ _)
  have KT : Bx W (w.heap.size + 1) 70 (ints zero24) := by subst hW; repeat (first | (refine Bx.newAt _ _ _ ?_; first | rfl | (simp only [World.size_alloc]; done) | (simp only [World.size_alloc]; omega)) | refine Bx.old ?_ _)
  have KB : Bx W (w.heap.size + 1 + 1) 4 [.bool false] := by subst hW; repeat (first | (refine Bx.newAt _ _ _ ?_; first | rfl | (simp only [World.size_alloc]; done) | (simp only [World.size_alloc]; omega)) | refine Bx.old ?_ _)
  have hWs : Hid (W.heap.size = w.heap.size + 1 + 1 + 1) := Lib.hid (by subst hW; simp)
  clear hW
  have KDl := KD.lt; have KDc := KD.get; have KDf := KD.fr; have KTl := KT.lt; have KTc := KT.get; have KTf := KT.fr; have KBl := KB.lt; have KBc := KB.get; have KBf := KB.fr
  go_wp2_with (go_at_call 79; refine (Backward_any A n c _).mono ?_; rintro e U ⟨rfl, hbu, kS⟩)
  clear KDl KDc KDf KTl KTc KTf KBl KBc KBf
  have I0 : ForI w A n c d zero24 false U := ⟨up HB.out hbu, KD.keep hbu, KT.keep hbu, KB.keep hbu, by rw [← hWs.out]; exact kS⟩
  have hws : w.heap.size + 1 + 1 + 1 < U.heap.size := I0.ks.lt
  clear KD KT KB hbu HB
  refine (wpIn_wide (n := 9)).1 ?_
  have hit := back_iter (w.heap.size + 1 + 1 + 1) A n c T U
  rw [hWs.out]
  have Hbu := Lib.hid I0.bel
  refine rangeFunc_law (by omega) (gf := 85) (fa := #[]) (lb := #[.pointer (some ⟨w.heap.size + 1 + 1 + 1, 0, none⟩)]) rfl (enters_of Try.func85 (by kernel_rfl) rfl) hit (Below.refl _ _) (fun _ => rfl)
    (fun pre X => ForI w A n c d zero24 false X ∧ missT d pre)
    (fun cd pre X => cd = .ret ∧ ∃ x, ifT T d = some x ∧ x.length = 24 ∧ ForI w A n c d x true X)
    ?_ ?_ ?_ ⟨I0, fun y hy => absurd hy (by simp)⟩ ?_ ?_ ?_
  · rintro pre X ⟨h, _⟩
    exact ⟨h.ks, HT.out.keep h.bel⟩
  · rintro s X Y ⟨h1, h2⟩ hb
    exact ⟨h1.keepB hb hws, h2⟩
  · rintro cd s X o ⟨rfl, x, h1, h2, h3⟩
    have hb : Below (U.heap.size + 1) X (X.putObj (U.heap.size + 1) o) := below_putObj X (by omega) o
    exact ⟨rfl, x, h1, h2, h3.keepB hb (by omega)⟩
  · rintro l pre x X ⟨t, ht⟩ h24 ⟨hI, hp⟩ hsz
    obtain ⟨xi, q⟩ := x
    simp only at h24
    have Ht := Lib.hid ht; have HP := Lib.hid hp; have HI := Lib.hid hI
    clear ht hp hI
    simp only [encT]
    gi_wp2_with (refine wpListIn_putNew 70 7 11 rfl rfl rfl rfl (sa_t h24) (show 24 = (ints q).length by rw [ints_len, h24]) (ints_one q) ?_; intro V KV hbv hsv)
    refine ⟨Above.of_below hbv, ?_⟩
    intro Y hY1 hY2
    have KVY : Bx Y X.heap.size 70 (ints q) := ⟨(hY2.block _ hsz (by omega)).trans KV.h⟩
    have KY := (HI.out.keepB hbv (by omega)).keepB hY1 hws
    have hsY : X.heap.size < Y.heap.size := KVY.lt
    clear hY1 hY2 HI KV hbv hsv
    obtain ⟨kb, kd, kt, kbb, ks⟩ := KY
    have HB := Lib.hid kb
    clear kb
    have cq : Y.cell? ⟨X.heap.size, 0, none⟩ = some (.int .i64 (q.getD 0 0)) := by rw [KVY.get]; exact ints_get (by omega)
    have kdl := kd.lt; have kdc := kd.get; have kdf := kd.fr; have kbbl := kbb.lt; have kbbc := kbb.get; have kbbf := kbb.fr
    by_cases he : q.getD 0 0 ≤ d
    · have Hx := Lib.hid (ifT_hit Ht.out HP.out he)
      have he2 := he
      generalize q.getD 0 0 = q0 at *
      gi_wp2_with (first
        | (refine wpListIn_get 70 7 rfl rfl KVY rfl Try.underlying70 rfl (sz_t h24) ?_)
        | (refine wpListIn_put 70 4 16 rfl rfl kt rfl rfl (sa_t h24) (show (ints zero24).length = (ints q).length by rw [ints_len, ints_len, h24]; rfl) (ints_one q) ?_; intro Z kz hp; clear kdl kdc kdf kbbl kbbc kbbf cq; replace kd := kd.put hp (by omega); replace kbb := kbb.put hp (by omega); replace ks := ks.put hp (by omega); have kbbl := kbb.lt; have kbbc := kbb.get; have kbbf := kbb.fr))
      have p2 := Put.cell Z (w.heap.size + 1 + 1) 0 (.bool true)
      have k2 : Bx _ (w.heap.size + 1 + 1) 4 [.bool true] := kbb.cell 0 (.bool true)
      generalize Z.setCell ⟨w.heap.size + 1 + 1, 0, none⟩ _ = Y2 at *
      exact ⟨(Above.put hp (by omega)).trans (Above.put p2 (by omega)), rfl, q, Hx.out, h24,
        ⟨upP (upP HB.out hp (by omega)) p2 (by omega), kd.put p2 (by omega), kz.put p2 (by omega), k2, ks.put p2 (by omega)⟩⟩
    · have he2 : ¬ q.getD 0 0 ≤ d := he
      have HPx : Hid (missT d (pre ++ [(xi, q)])) := Lib.hid (fun y hy => by
        rcases List.mem_append.1 hy with hy | hy
        · exact HP.out y hy
        · simp only [List.mem_singleton] at hy; subst hy; exact he2)
      generalize q.getD 0 0 = q0 at *
      gi_wp2
      exact ⟨Above.refl _ _, ⟨HB.out, kd, kt, kbb, ks⟩, HPx.out⟩
  · rintro xs X hS ⟨hI, hp⟩ hdef
    have Hx := Lib.hid (ifT_none (T := T) (d := d) (by rw [← hS]; exact hp))
    have hdl := (Array.getElem?_eq_some_iff.1 hdef).1
    have Hdef := Lib.hid hdef
    clear hS hdef hp
    obtain ⟨kb, kd, kt, kbb, ks⟩ := hI
    have HB := Lib.hid kb
    clear kb
    have kbbl := kbb.lt; have kbbc := kbb.get; have kbbf := kbb.fr
    gi_wp2
    go_wp2_with (refine wpList_put 70 4 17 rfl rfl kt rfl rfl (by kernel_rfl) rfl (by kernel_rfl) ?_; intro Z kz hp; clear kbbl kbbc kbbf; replace kbb := kbb.put hp (by omega); have kbbl := kbb.lt; have kbbc := kbb.get; have kbbf := kbb.fr)
    have p2 := Put.cell Z (w.heap.size + 1 + 1) 0 (.bool false)
    have k2 : Bx _ (w.heap.size + 1 + 1) 4 [.bool false] := kbb.cell 0 (.bool false)
    generalize Z.setCell ⟨w.heap.size + 1 + 1, 0, none⟩ _ = Y2 at *
    have k1 : Bx Y2 (w.heap.size + 1) 70 (ints zero24) := kz.put p2 (by omega)
    refine bodyPostM_marks [U.heap.size] rfl (by simp) ?_ fun Y hY => ?_
    · intro D hD
      simp at hD; subst hD
      rw [p2.block _ (by omega), hp.block _ (by omega)]; exact Hdef.out
    · have z1 : Bx Y (w.heap.size + 1) 70 (ints zero24) := ⟨(hY.block _ (by simp; omega)).trans k1.h⟩
      have z2 : Bx Y (w.heap.size + 1 + 1) 4 [.bool false] := ⟨(hY.block _ (by simp; omega)).trans k2.h⟩
      refine ⟨_, results_rc rfl _ rfl z1 Try.underlying70 rfl (sz_t rfl) rfl (load_bool z2), ?_, hY.below (upP (upP HB.out hp (by omega)) p2 (by omega)) (by intro D hD; simp at hD; omega)⟩
      rw [Hx.out]; rfl
  · rintro cd pre X ⟨t, ht⟩ ⟨rfl, x, h1, h2, h3⟩ hdef
    have H1 := Lib.hid h1; have H3 := Lib.hid h3
    have Hdef := Lib.hid hdef
    have hdl := (Array.getElem?_eq_some_iff.1 hdef).1
    clear ht h1 h3 hdef
    gi_wp2
    refine bodyPostM_marks [U.heap.size] rfl (by simp) ?_ fun Z hZ => ?_
    · intro D hD
      simp at hD; subst hD; exact Hdef.out
    · have z1 : Bx Z (w.heap.size + 1) 70 (ints x) := ⟨(hZ.block _ (by simp; omega)).trans H3.out.kt.h⟩
      have z2 : Bx Z (w.heap.size + 1 + 1) 4 [.bool true] := ⟨(hZ.block _ (by simp; omega)).trans H3.out.kb.h⟩
      refine ⟨_, results_rc rfl _ rfl z1 Try.underlying70 rfl (sz_t h2) rfl (load_bool z2), ?_, hZ.below H3.out.bel (by intro D hD; simp at hD; omega)⟩
      rw [H1.out]; rfl
end Go.Proofs.Ytjimjdhdnkhfnaa
namespace Go.Proofs.Ytjimjdhdnkhfnaa
open Go Go.RowKit
set_option maxHeartbeats 2000000
set_option maxRecDepth 100000
def sayB (h : List Int) : Bool := if (h.getD 2 0 == 1 || h.getD 2 0 == 3) = true then inB (h.getD 3 0) 1 99 else (h.getD 2 0 == 2 && h.getD 3 0 == 0)
def noteOk (h : List Int) : Bool := inB (h.getD 0 0) 1 99999 && (inB (h.getD 1 0) 1 99999 && (sayB h && (inB (h.getD 4 0) 0 100000 && timB (h.getD 5 0) (h.getD 6 0))))
theorem validSaying_any (h : List Int) (hl : h.length = 7) (w : World) :
    Calls Try.prog 51 #[.agg ⟨ints h⟩] w fun e w' => e = .returned (.bool (sayB h)) ∧ Below w.heap.size w w' := by
  obtain ⟨a0, a1, a2, a3, a4, a5, a6, rfl⟩ := list7 hl
  show Calls Try.prog 51 #[.agg #[.int .i64 a0, .int .i64 a1, .int .i64 a2, .int .i64 a3, .int .i64 a4, .int .i64 a5, .int .i64 a6]] w _
  have HS : Hid (sayB [a0, a1, a2, a3, a4, a5, a6] = if (a2 == 1 || a2 == 3) = true then inB a3 1 99 else (a2 == 2 && a3 == 0)) := Lib.hid rfl
  clear hl
  cases h1 : (a2 == 1) <;> cases h3 : (a2 == 3) <;> cases h2 : (a2 == 2) <;>
  · go_enter Try.func51, Try.ntmps51
    go_wp2_with (go_at_call 64; refine (validOwner_any _ _).mono ?_; rintro e w' ⟨rfl, rfl⟩)
    go_ret
    exact ⟨by rw [HS.out, h1, h3]; first | rfl | (rw [h2]; rfl), by go_grown⟩
theorem checkNote_any (h : List Int) (hl : h.length = 7) (w : World) :
    Calls Try.prog 20 #[.agg ⟨ints h⟩] w fun e w' => e = .returned (.int .i64 (err (noteOk h) 62)) ∧ Below w.heap.size w w' := by
  have HSay : Hid (∀ W, Calls Try.prog 51 #[.agg ⟨ints h⟩] W fun e w' => e = .returned (.bool (sayB h)) ∧ Below W.heap.size W w') := Lib.hid (fun W => validSaying_any h hl W)
  generalize hs : sayB h = s at HSay
  have HN : Hid (noteOk h = (inB (h.getD 0 0) 1 99999 && (inB (h.getD 1 0) 1 99999 && (s && (inB (h.getD 4 0) 0 100000 && timB (h.getD 5 0) (h.getD 6 0)))))) := Lib.hid (by rw [← hs]; rfl)
  clear hs
  obtain ⟨a0, a1, a2, a3, a4, a5, a6, rfl⟩ := list7 hl
  show Calls Try.prog 20 #[.agg #[.int .i64 a0, .int .i64 a1, .int .i64 a2, .int .i64 a3, .int .i64 a4, .int .i64 a5, .int .i64 a6]] w _
  replace HSay : Hid (∀ W, Calls Try.prog 51 #[.agg #[.int .i64 a0, .int .i64 a1, .int .i64 a2, .int .i64 a3, .int .i64 a4, .int .i64 a5, .int .i64 a6]] W fun e w' => e = .returned (.bool s) ∧ Below W.heap.size W w') := HSay
  replace HN : Hid (noteOk [a0, a1, a2, a3, a4, a5, a6] = (inB a0 1 99999 && (inB a1 1 99999 && (s && (inB a4 0 100000 && timB a5 a6))))) := HN
  clear hl
  go_enter Try.func20, Try.ntmps20
  go_upto_region 1 with fail
  generalize hW : (World.alloc _ _) = W
  have HB : Hid (Below w.heap.size w W) := Lib.hid (by subst hW; go_grown)
  have KN : Bx W (w.heap.size) 49 [.int .i64 a0, .int .i64 a1, .int .i64 a2, .int .i64 a3, .int .i64 a4, .int .i64 a5, .int .i64 a6] := by subst hW; repeat (first | (refine Bx.newAt _ _ _ ?_; first | rfl | (simp only [World.size_alloc]; done) | (simp only [World.size_alloc]; omega)) | refine Bx.old ?_ _)
  have hWs : Hid (W.heap.size = w.heap.size + 1) := Lib.hid (by subst hW; simp)
  clear hW
  have KNl := KN.lt; have KNc := KN.get; have KNf := KN.fr
  go_wp2_with (first
    | (go_at_call 50; refine (validSource_any _ _).mono ?_; rintro e w' ⟨rfl, rfl⟩; generalize hq : inB _ _ _ = q; cases q)
    | (go_at_call 52; refine (validDay_any _ _).mono ?_; rintro e w' ⟨rfl, rfl⟩; generalize hq : inB _ _ _ = q; cases q)
    | (go_at_call 51; refine (HSay.out _).mono ?_; rintro e X ⟨rfl, hbx⟩; cases s <;> (clear KNl KNc KNf; replace KN := KN.keep hbx; have KNl := KN.lt; have KNc := KN.get; have KNf := KN.fr; replace HB := Lib.hid (up HB.out hbx); clear hbx))
    | (go_at_call 53; refine (validTime_any _ _ _).mono ?_; rintro e w' ⟨rfl, rfl⟩; generalize hq : timB _ _ = q; cases q)
    | (go_at_call 49; refine (unless_any _ _ _).mono ?_; rintro e w' ⟨rfl, rfl⟩))
  all_goals (go_ret; exact ⟨by rw [HN.out]; simp [*], HB.out⟩)
def heldOk (h : List Int) : Bool := inB (h.getD 0 0) 1 99999 && ((inB (h.getD 1 0) 1 9999 && inB (h.getD 2 0) 1 9) && ((inB (h.getD 3 0) 0 100 && (inB (h.getD 4 0) 0 100000 && inB (h.getD 5 0) 0 99)) && (inB (h.getD 6 0) 0 100000 && timB (h.getD 7 0) (h.getD 8 0))))
theorem checkHeld_any (h : List Int) (hl : h.length = 9) (w : World) :
    Calls Try.prog 45 #[.agg ⟨ints h⟩] w fun e w' => e = .returned (.int .i64 (err (heldOk h) 61)) ∧ Below w.heap.size w w' := by
  obtain ⟨a0, a1, a2, a3, a4, a5, a6, a7, a8, rfl⟩ := list9 hl
  show Calls Try.prog 45 #[.agg #[.int .i64 a0, .int .i64 a1, .int .i64 a2, .int .i64 a3, .int .i64 a4, .int .i64 a5, .int .i64 a6, .int .i64 a7, .int .i64 a8]] w _
  have HN : Hid (heldOk [a0, a1, a2, a3, a4, a5, a6, a7, a8] = (inB a0 1 99999 && ((inB a1 1 9999 && inB a2 1 9) && ((inB a3 0 100 && (inB a4 0 100000 && inB a5 0 99)) && (inB a6 0 100000 && timB a7 a8))))) := Lib.hid rfl
  clear hl
  go_enter Try.func45, Try.ntmps45
  go_upto_region 1 with fail
  generalize hW : (World.alloc _ _) = W
  have HB : Hid (Below w.heap.size w W) := Lib.hid (by subst hW; go_grown)
  have KN : Bx W (w.heap.size) 35 [.int .i64 a0, .int .i64 a1, .int .i64 a2, .int .i64 a3, .int .i64 a4, .int .i64 a5, .int .i64 a6, .int .i64 a7, .int .i64 a8] := by subst hW; repeat (first | (refine Bx.newAt _ _ _ ?_; first | rfl | (simp only [World.size_alloc]; done) | (simp only [World.size_alloc]; omega)) | refine Bx.old ?_ _)
  have hWs : Hid (W.heap.size = w.heap.size + 1) := Lib.hid (by subst hW; simp)
  clear hW
  have KNl := KN.lt; have KNc := KN.get; have KNf := KN.fr
  go_wp2_with (first
    | (go_at_call 72; refine (within_any _ _ _ _).mono ?_; rintro e w' ⟨rfl, rfl⟩; generalize hq : inB _ _ _ = q; cases q)
    | (go_at_call 50; refine (validSource_any _ _).mono ?_; rintro e w' ⟨rfl, rfl⟩; generalize hq : inB _ _ _ = q; cases q)
    | (go_at_call 52; refine (validDay_any _ _).mono ?_; rintro e w' ⟨rfl, rfl⟩; generalize hq : inB _ _ _ = q; cases q)
    | (go_at_call 53; refine (validTime_any _ _ _).mono ?_; rintro e w' ⟨rfl, rfl⟩; generalize hq : timB _ _ = q; cases q)
    | (go_at_call 49; refine (unless_any _ _ _).mono ?_; rintro e w' ⟨rfl, rfl⟩))
  all_goals (go_ret; exact ⟨by rw [HN.out]; simp [*], HB.out⟩)
end Go.Proofs.Ytjimjdhdnkhfnaa

namespace Go.Proofs.Ytjimjdhdnkhfnaa
open Go Go.RowKit
set_option maxHeartbeats 2000000
set_option maxRecDepth 100000
def rateOk (r : List Int) : Bool := r.all (fun x => inB x 0 10000) && r.getD 0 0 == 0
def rateK (r : List Int) (k : Nat) : Bool := (r.take k).all (fun x => inB x 0 10000)
theorem rateK_succ {r : List Int} {k : Nat} (h : k < r.length) : rateK r (k + 1) = (rateK r k && inB (r.getD k 0) 0 10000) := by
  unfold rateK
  rw [List.take_succ_eq_append_getElem h, List.all_append, List.getD_eq_getElem?_getD, List.getElem?_eq_getElem h]; simp
theorem rate_bad {r : List Int} {k : Nat} (h : k < r.length) (hb : inB (r.getD k 0) 0 10000 = false) : rateOk r = false := by
  have : r.all (fun x => inB x 0 10000) = false := by
    rw [List.all_eq_false]
    refine ⟨r[k], List.getElem_mem h, ?_⟩
    rw [List.getD_eq_getElem?_getD, List.getElem?_eq_getElem h] at hb
    simpa using hb
  unfold rateOk; rw [this]; rfl
theorem rate_all {r : List Int} (h : rateK r r.length = true) : rateOk r = (r.getD 0 0 == 0) := by
  unfold rateK at h; rw [List.take_length] at h; unfold rateOk; rw [h]; rfl
theorem sI28 {r : List Int} (hl : r.length = 10) : (Try.prog.info? 68).map (·.size) = some (ints r).length := by
  rw [ints_len, hl]; kernel_rfl
theorem index28 {r : List Int} (hl : r.length = 10) {k : Nat} (hk : k < 10) (w : World) : (Instr.index 68 (.agg ⟨ints r⟩) (.int .i64 (k : Int))).run Try.prog w = .ok (.int .i64 (r.getD k 0)) w := by
  have := index_lit (P := Try.prog) w (t := 68) (e := 3) (n := 10) ⟨ints r⟩ (k : Int) (by kernel_rfl) (by kernel_rfl) (by kernel_rfl) (by omega) (by omega) (by simp [ints, hl]; omega)
  rw [this, Int.toNat_natCast]
  congr 1
  rw [Array.getD_eq_getD_getElem?, List.getElem?_toArray, ints_get (by omega)]; rfl
theorem validRates_any (r : List Int) (hl : r.length = 10) (w : World) :
    Calls Try.prog 71 #[.agg ⟨ints r⟩] w fun e w' => e = .returned (.bool (rateOk r)) ∧ Below w.heap.size w w' := by
  go_enter Try.func71, Try.ntmps71
  go_upto_region 1 with fail
  generalize hW : (World.alloc _ _) = W
  have HB : Hid (Below w.heap.size w W) := Lib.hid (by subst hW; go_grown)
  have KR : Bx W (w.heap.size) 68 (ints r) := by subst hW; repeat (first | (refine Bx.newAt _ _ _ ?_; first | rfl | (simp only [World.size_alloc]; done) | (simp only [World.size_alloc]; omega)) | refine Bx.old ?_ _)
  have hWs : Hid (W.heap.size = w.heap.size + 1) := Lib.hid (by subst hW; simp)
  clear hW
  have KRl := KR.lt; have KRc := KR.get; have KRf := KR.fr
  go_wp2_with (refine wpList_get 68 1 rfl rfl KR rfl Try.underlying68 rfl (sI28 hl) ?_)
  go_loopw [6] (fun i wr => ∃ (k : Nat), k ≤ 10 ∧ i = .int .i64 k ∧ rateK r k = true ∧ wr = W) (fun i _ => 10 - (intOf i).toNat)
  case atStart => exact ⟨0, by omega, rfl, rfl, rfl⟩
  case round =>
    obtain ⟨k, hk, rfl, hr, rfl⟩ := hrel
    have Hr := Lib.hid hr
    clear hr
    by_cases hlt : k < 10
    · have hx := fun w => index28 hl hlt w
      have Hs := Lib.hid (rateK_succ (r := r) (k := k) (by omega))
      have Hbad := Lib.hid (fun h => rate_bad (r := r) (k := k) (by omega) h)
      generalize r.getD k 0 = y at *
      cases hy : inB y 0 10000
      · have Hy := Lib.hid hy; clear hy
        go_wp2_with (go_at_call 72; refine (within_any _ _ _ _).mono ?_; rintro e w' ⟨rfl, rfl⟩; rw [Hy.out])
        go_ret; exact ⟨by rw [Hbad.out Hy.out]; rfl, HB.out⟩
      · have Hy := Lib.hid hy; clear hy
        go_wp2_with (go_at_call 72; refine (within_any _ _ _ _).mono ?_; rintro e w' ⟨rfl, rfl⟩; rw [Hy.out])
        exact ⟨⟨k + 1, by omega, by go_num, by rw [Hs.out, Hr.out, Hy.out]; rfl, trivial⟩, by simp [intOf]; omega⟩
    · obtain rfl : k = 10 := by omega
      have Hall := Lib.hid (rate_all (r := r) (by rw [hl]; exact Hr.out))
      have c0 : wr.cell? ⟨w.heap.size, 0, none⟩ = some (.int .i64 (r.getD 0 0)) := by rw [KR.get]; exact ints_get (by omega)
      generalize r.getD 0 0 = y at *
      clear KRc
      go_wp2
      go_ret; exact ⟨by rw [Hall.out]; rfl, HB.out⟩
end Go.Proofs.Ytjimjdhdnkhfnaa
namespace Go.Proofs.Ytjimjdhdnkhfnaa
open Go Go.RowKit
set_option maxHeartbeats 2000000
set_option maxRecDepth 100000
def headT (t : List Int) : List Int := (t.drop 1).take 10
def dailT (t : List Int) : List Int := (t.drop 11).take 10
theorem headT_len {t : List Int} (hl : t.length = 24) : (headT t).length = 10 := by simp [headT, hl]
theorem dailT_len {t : List Int} (hl : t.length = 24) : (dailT t).length = 10 := by simp [dailT, hl]
def tarOk (t : List Int) : Bool := inB (t.getD 0 0) 0 100000 && (rateOk (headT t) && (rateOk (dailT t) && (inB (t.getD 21 0) 0 10000 && (inB (t.getD 22 0) 0 60 && (inB (t.getD 23 0) 0 60 && decide (t.getD 22 0 + t.getD 23 0 ≤ 60))))))
theorem checkTariff_any (t : List Int) (hl : t.length = 24) (w : World) :
    Calls Try.prog 42 #[.agg ⟨ints t⟩] w fun e w' => e = .returned (.int .i64 (err (tarOk t) 60)) ∧ Below w.heap.size w w' := by
  have HH := Lib.hid (fun W => validRates_any (headT t) (headT_len hl) W)
  have HD := Lib.hid (fun W => validRates_any (dailT t) (dailT_len hl) W)
  have HN : Hid (tarOk t = (inB (t.getD 0 0) 0 100000 && (rateOk (headT t) && (rateOk (dailT t) && (inB (t.getD 21 0) 0 10000 && (inB (t.getD 22 0) 0 60 && (inB (t.getD 23 0) 0 60 && decide (t.getD 22 0 + t.getD 23 0 ≤ 60)))))))) := Lib.hid rfl
  generalize hrh : rateOk (headT t) = rh at *
  generalize hrd : rateOk (dailT t) = rd at *
  clear hrh hrd
  go_enter Try.func42, Try.ntmps42
  go_upto_region 1 with fail
  generalize hW : (World.alloc _ _) = W
  have HB : Hid (Below w.heap.size w W) := Lib.hid (by subst hW; go_grown)
  have KT : Bx W (w.heap.size) 70 (ints t) := by subst hW; repeat (first | (refine Bx.newAt _ _ _ ?_; first | rfl | (simp only [World.size_alloc]; done) | (simp only [World.size_alloc]; omega)) | refine Bx.old ?_ _)
  have hWs : Hid (W.heap.size = w.heap.size + 1) := Lib.hid (by subst hW; simp)
  clear hW
  have KTl := KT.lt; have KTc := KT.get; have KTf := KT.fr
  have HLh : Hid (∀ X, Bx X w.heap.size 70 (ints t) → X.rangeAt w.heap.size 1 (ints (headT t))) := Lib.hid (fun X K => by have := range_part K.range 1 10; rwa [Nat.zero_add] at this)
  have HLd : Hid (∀ X, Bx X w.heap.size 70 (ints t) → X.rangeAt w.heap.size 11 (ints (dailT t))) := Lib.hid (fun X K => by have := range_part K.range 11 10; rwa [Nat.zero_add] at this)
  have Hlh := Lib.hid (sI28 (headT_len hl))
  have Hld := Lib.hid (sI28 (dailT_len hl))
  have HC : Hid (∀ X, Bx X w.heap.size 70 (ints t) → X.cell? ⟨w.heap.size, 0, none⟩ = some (.int .i64 (t.getD 0 0)) ∧ X.cell? ⟨w.heap.size, 21, none⟩ = some (.int .i64 (t.getD 21 0)) ∧ X.cell? ⟨w.heap.size, 22, none⟩ = some (.int .i64 (t.getD 22 0)) ∧ X.cell? ⟨w.heap.size, 23, none⟩ = some (.int .i64 (t.getD 23 0))) :=
    Lib.hid (fun X K => ⟨by rw [K.get]; exact ints_get (by omega), by rw [K.get]; exact ints_get (by omega), by rw [K.get]; exact ints_get (by omega), by rw [K.get]; exact ints_get (by omega)⟩)
  generalize headT t = lh at *
  generalize dailT t = ld at *
  clear KTc KTf
  generalize t.getD 0 0 = t0 at *
  generalize t.getD 21 0 = t21 at *
  generalize t.getD 22 0 = t22 at *
  generalize t.getD 23 0 = t23 at *
  obtain ⟨c0, c21, c22, c23⟩ := HC.out _ KT
  go_wp2_with (first
    | (refine wpList_getG 68 31 (.tmp 30) rfl (by kernel_rfl) rfl rfl (HLh.out _ KT) Try.underlying68 rfl Hlh.out ?_)
    | (refine wpList_getG 68 36 (.tmp 35) rfl (by kernel_rfl) rfl rfl (HLd.out _ KT) Try.underlying68 rfl Hld.out ?_)
    | (go_at_call 52; refine (validDay_any _ _).mono ?_; rintro e w' ⟨rfl, rfl⟩; generalize hq : inB _ _ _ = q; cases q)
    | (go_at_call 72; refine (within_any _ _ _ _).mono ?_; rintro e w' ⟨rfl, rfl⟩; generalize hq : inB _ _ _ = q; cases q)
    | (go_at_call_of 71 (Value.agg ⟨ints lh⟩); refine (HH.out _).mono ?_; rintro e X ⟨rfl, hbx⟩; cases rh <;> (clear c0 c21 c22 c23 KTl; replace KT := KT.keep hbx; have KTl := KT.lt; replace HB := Lib.hid (up HB.out hbx); clear hbx; obtain ⟨c0, c21, c22, c23⟩ := HC.out _ KT))
    | (go_at_call_of 71 (Value.agg ⟨ints ld⟩); refine (HD.out _).mono ?_; rintro e X ⟨rfl, hbx⟩; cases rd <;> (clear c0 c21 c22 c23 KTl; replace KT := KT.keep hbx; have KTl := KT.lt; replace HB := Lib.hid (up HB.out hbx); clear hbx; obtain ⟨c0, c21, c22, c23⟩ := HC.out _ KT))
    | (go_at_call 49; refine (unless_any _ _ _).mono ?_; rintro e w' ⟨rfl, rfl⟩))
  all_goals first | (go_ret; refine ⟨?_, HB.out⟩; rw [HN.out]; refine riEq (congrArg (fun b => err b 60) ?_); first | (simp [*]; done) | (rw [Bool.eq_iff_iff]; simp [*, inB] <;> omega)) | (go_ret; refine ⟨?_, HB.out⟩; rw [HN.out]; refine riEq (congrArg (fun b => err b 60) ?_); rw [Bool.eq_iff_iff]; clear HN HH HD HLh HLd HC Hlh Hld KT c0 c21 c22 c23; simp only [Bool.and_eq_true, decide_eq_true_eq, inB_iff, Bool.true_and] at *; omega)
end Go.Proofs.Ytjimjdhdnkhfnaa
namespace Go.Proofs.Ytjimjdhdnkhfnaa
open Go Go.RowKit
set_option maxHeartbeats 2000000
set_option maxRecDepth 100000
def tarAt (T : List (List Int)) (d : Int) : List Int := (ifT T d).getD zero24
theorem ifT_mem {T : List (List Int)} {d : Int} {x : List Int} (h : ifT T d = some x) : x ∈ T := by
  unfold ifT at h
  obtain ⟨y, hy, rfl⟩ := Option.map_eq_some_iff.1 h
  have := List.mem_of_find?_eq_some hy
  unfold bakK at this
  obtain ⟨i, hi, rfl⟩ := List.mem_map.1 this
  have hi := List.mem_range.1 hi
  rw [List.getD_eq_getElem?_getD, List.getElem?_eq_getElem (by omega)]
  exact List.getElem_mem _
theorem tarAt_len {T : List (List Int)} (hT : ∀ x ∈ T, x.length = 24) (d : Int) : (tarAt T d).length = 24 := by
  unfold tarAt
  cases h : ifT T d with
  | none => rfl
  | some x => exact hT x (ifT_mem h)
theorem tariff_any (h : List Int) (A : Option Addr) (n c : Nat) (T : List (List Int)) (B : Option Addr) (m d : Nat) (kn : Int) (lt : List Int) (day : Int) (w : World) (hh : h.length = 9) (hT : Rw w A n 24 T) :
    Calls Try.prog 39 #[.agg ⟨tld h A n c B m d kn lt⟩, .int .i64 day] w fun e w' => e = .returned (.agg ⟨ints (tarAt T day)⟩) ∧ Below w.heap.size w w' := by
  have hl := tarAt_len hT.wid day
  have HF := Lib.hid (fun W (hW : Below w.heap.size w W) => inForce_any A n c T day W (hT.keep hW))
  have HT : Hid (tarAt T day = (ifT T day).getD zero24) := Lib.hid rfl
  generalize (ifT T day).isSome = is at HF
  rw [← HT.out] at HF
  generalize tarAt T day = t at *
  clear hT
  go_enter Try.func39, Try.ntmps39
  go_upto_region 1 with fail
  generalize hW : (World.alloc _ _) = W
  have HB : Hid (Below w.heap.size w W) := Lib.hid (by subst hW; go_grown)
  have KD : Bx W (w.heap.size) 73 (tld h A n c B m d kn lt) := by subst hW; repeat (first | (refine Bx.newAt _ _ _ ?_; first | rfl | (simp only [World.size_alloc]; done) | (simp only [World.size_alloc]; omega)) | refine Bx.old ?_ _)
  have KR : Bx W (w.heap.size + 1) 70 (ints zero24) := by subst hW; repeat (first | (refine Bx.newAt _ _ _ ?_; first | rfl | (simp only [World.size_alloc]; done) | (simp only [World.size_alloc]; omega)) | refine Bx.old ?_ _)
  have hWs : Hid (W.heap.size = w.heap.size + 1 + 1) := Lib.hid (by subst hW; simp)
  clear hW
  have KDl := KD.lt; have KDc := KD.get; have KDf := KD.fr; have KRl := KR.lt; have KRc := KR.get; have KRf := KR.fr
  have c9 : W.cell? ⟨w.heap.size, 9, none⟩ = some (.slice A n c) := by rw [KD.get]; exact tld_9 hh
  clear KDc
  have hKR := KRl
  clear KRl KRc KRf
  go_wp2_with (first
    | (go_at_call 70; refine (HF.out _ HB.out).mono ?_; rintro e X ⟨rfl, hbx⟩; replace KR := KR.keep hbx; replace HB := Lib.hid (up HB.out hbx); have hKX := KR.lt)
    | (refine wpList_putNew 70 5 12 rfl rfl rfl rfl (sa_t hl) (show 24 = (ints t).length by rw [ints_len, hl]) (ints_one t) ?_; intro U KU hbu hsu; replace KR := KR.keep hbu; replace HB := Lib.hid (up HB.out hbu))
    | (refine wpList_get 70 5 rfl rfl KU rfl Try.underlying70 rfl (sz_t hl) ?_)
    | (refine wpList_put 70 4 14 rfl rfl KR rfl rfl (sa_t hl) (show (ints zero24).length = (ints t).length by rw [ints_len, ints_len, hl]; rfl) (ints_one t) ?_; intro V KV hp))
  exact post_1 rfl rfl rfl KV Try.underlying70 rfl (sz_t hl) ⟨rfl, upP HB.out hp (by omega)⟩
end Go.Proofs.Ytjimjdhdnkhfnaa
namespace Go.Proofs.Ytjimjdhdnkhfnaa
open Go Go.RowKit
set_option maxHeartbeats 2000000
set_option maxRecDepth 100000
theorem tarAt_feed {T : List (List Int)} (hT : ∀ x ∈ T, tarOk x = true) (d : Int) : 0 ≤ (tarAt T d).getD 21 0 ∧ (tarAt T d).getD 21 0 ≤ 10000 := by
  unfold tarAt
  cases h : ifT T d with
  | none => exact ⟨by decide, by decide⟩
  | some x =>
    have := hT x (ifT_mem h)
    unfold tarOk at this
    simp only [Bool.and_eq_true] at this
    exact inB_iff.1 this.2.2.2.1
def feedD (T : List (List Int)) (e d : Int) : Int := e * (tarAt T d).getD 21 0 / 10
theorem feed_any (h : List Int) (A : Option Addr) (n c : Nat) (T : List (List Int)) (B : Option Addr) (m d : Nat) (kn : Int) (lt : List Int) (day : Int) (w : World) (hh : h.length = 9) (hlt : lt.length = 4) (hT : Rw w A n 24 T)
    (hok : ∀ x ∈ T, tarOk x = true) (he : 0 ≤ h.getD 3 0 ∧ h.getD 3 0 ≤ 100) :
    Calls Try.prog 38 #[.agg ⟨tld h A n c B m d kn lt⟩, .int .i64 day] w fun e w' => e = .returned (.int .i64 (feedD T (h.getD 3 0) day)) ∧ Below w.heap.size w w' := by
  have hl := tarAt_len hT.wid day
  have hf := tarAt_feed hok day
  have HF := Lib.hid (fun W (hW : Below w.heap.size w W) => tariff_any h A n c T B m d kn lt day W hh (hT.keep hW))
  have HD : Hid (feedD T (h.getD 3 0) day = h.getD 3 0 * (tarAt T day).getD 21 0 / 10) := Lib.hid rfl
  generalize tarAt T day = t at *
  clear hT hok
  obtain ⟨p0, p1, p2, p3, p4, p5, p6, p7, p8, p9, p10, p11, p12, p13, p14, p15, p16, p17, p18, p19, p20, p21, p22, p23, rfl⟩ := list24 hl
  replace HF : Hid (∀ W, Below w.heap.size w W → Calls Try.prog 39 #[.agg ⟨tld h A n c B m d kn lt⟩, .int .i64 day] W fun e w' => e = .returned (.agg #[.int .i64 p0, .int .i64 p1, .int .i64 p2, .int .i64 p3, .int .i64 p4, .int .i64 p5, .int .i64 p6, .int .i64 p7, .int .i64 p8, .int .i64 p9, .int .i64 p10, .int .i64 p11, .int .i64 p12, .int .i64 p13, .int .i64 p14, .int .i64 p15, .int .i64 p16, .int .i64 p17, .int .i64 p18, .int .i64 p19, .int .i64 p20, .int .i64 p21, .int .i64 p22, .int .i64 p23]) ∧ Below W.heap.size W w') := HF
  replace HD : Hid (feedD T (h.getD 3 0) day = h.getD 3 0 * p21 / 10) := HD
  replace hf : 0 ≤ p21 ∧ p21 ≤ 10000 := hf
  obtain ⟨f1, f2⟩ := hf
  obtain ⟨h3, hh3⟩ : ∃ x, h.getD 3 0 = x := ⟨_, rfl⟩
  rw [hh3] at he HD ⊢
  have Hh3 := Lib.hid hh3
  clear hh3
  obtain ⟨e1, e2⟩ := he
  go_enter Try.func38, Try.ntmps38
  go_upto_region 1 with fail
  generalize hW : (World.alloc _ _) = W
  have HB : Hid (Below w.heap.size w W) := Lib.hid (by subst hW; go_grown)
  have KD : Bx W (w.heap.size) 73 (tld h A n c B m d kn lt) := by subst hW; repeat (first | (refine Bx.newAt _ _ _ ?_; first | rfl | (simp only [World.size_alloc]; done) | (simp only [World.size_alloc]; omega)) | refine Bx.old ?_ _)
  have hWs : Hid (W.heap.size = w.heap.size + 1) := Lib.hid (by subst hW; simp)
  clear hW
  have KDl := KD.lt; have KDc := KD.get; have KDf := KD.fr
  have c3 : W.cell? ⟨w.heap.size, 3, none⟩ = some (.int .i64 h3) := by rw [KD.get, ← Hh3.out]; exact tld_h hh (by omega)
  have HKD := Lib.hid KD
  clear KDc
  have hmul : 0 ≤ h3 * p21 ∧ h3 * p21 ≤ 1000000 := ⟨Int.mul_nonneg e1 f1, by
    have := Int.mul_le_mul e2 f2 f1 (by decide); omega⟩
  obtain ⟨m1, m2⟩ := hmul
  have hfld : ∀ w : World, (Instr.field 70 (.agg #[.int .i64 p0, .int .i64 p1, .int .i64 p2, .int .i64 p3, .int .i64 p4, .int .i64 p5, .int .i64 p6, .int .i64 p7, .int .i64 p8, .int .i64 p9, .int .i64 p10, .int .i64 p11, .int .i64 p12, .int .i64 p13, .int .i64 p14, .int .i64 p15, .int .i64 p16, .int .i64 p17, .int .i64 p18, .int .i64 p19, .int .i64 p20, .int .i64 p21, .int .i64 p22, .int .i64 p23]) 3).run Try.prog w = .ok (.int .i64 p21) w := fun w => by kernel_rfl
  refine wp_region_grow (by kernel_rfl) (by kernel_rfl) ?_
  repeat (first
    | (refine wpQuiet_row 73 (.tmp 2) (by kernel_rfl) rfl rfl (by rintro _ ⟨z9, rfl⟩; exact rangeAt_keep KD.range KD.lt (grow_below W z9)) Try.underlying73 rfl (sz_tld hh hlt) ?_; simp only [Act.put, List.setIfInBounds_toArray, List.set_cons_zero, List.set_cons_succ])
    | go_big_quiet_step ((go_at_call 39; exact quiet_grow rfl (HF.out _ (HB.out.trans ((grow_below W _).mono HB.out.size))))))
  refine wpQuiet_nil ?_
  intro z
  have hbz := grow_below W z
  generalize grow W z = V at *
  replace HB := Lib.hid (up HB.out hbz)
  clear hbz KDl KDf KD HKD c3 HF
  go_wp2
  go_ret
  trace_state
  exact ⟨by rw [HD.out]; rfl, HB.out⟩
end Go.Proofs.Ytjimjdhdnkhfnaa

namespace Go.Proofs.Ytjimjdhdnkhfnaa
open Go Go.RowKit
set_option maxHeartbeats 2000000
set_option maxRecDepth 100000
def marG (f : Int → Int) (p day lim : Int) : Nat → Int → Int → Int
  | 0, _, _ => -1
  | n + 1, d, acc => if d ≤ day ∧ d ≤ lim ∧ 0 < p then (if p ≤ acc + f d then d else marG f p day lim n (d + 1) (acc + f d)) else -1
def marN (T : List (List Int)) (h : List Int) (day : Int) : Int :=
  marG (feedD T (h.getD 3 0)) (h.getD 4 0) day (h.getD 6 0 + 720) 722 (h.getD 6 0) 0
theorem feedD_in {T : List (List Int)} {e : Int} (hok : ∀ x ∈ T, tarOk x = true) (he : 0 ≤ e ∧ e ≤ 100) (d : Int) : 0 ≤ feedD T e d ∧ feedD T e d ≤ 1000000 := by
  have hf := tarAt_feed hok d
  show 0 ≤ e * (tarAt T d).getD 21 0 / 10 ∧ e * (tarAt T d).getD 21 0 / 10 ≤ 1000000
  generalize (tarAt T d).getD 21 0 = p at *
  have hm : 0 ≤ e * p := Int.mul_nonneg he.1 hf.1
  have hm2 : e * p ≤ 1000000 := by have := Int.mul_le_mul he.2 hf.2 hf.1 (by decide); omega
  omega
end Go.Proofs.Ytjimjdhdnkhfnaa
namespace Go.Proofs.Ytjimjdhdnkhfnaa
open Go Go.RowKit
set_option maxHeartbeats 1000000
set_option maxRecDepth 100000
theorem isC (X : World) (t : TypeId) (l : List Int) (h : l.length < 1000) : Is (X.alloc (.cells ⟨ints l⟩ t)) (some ⟨X.heap.size, 0, none⟩) l.length l :=
  ⟨rfl, by omega, fun k hk => ⟨X.heap.size, 0, rfl, by simp, by
    rw [cell_of_row _ _ _ _ _ _ (heap_alloc_new _ _)]
    simp [ints, hk]⟩⟩
theorem orE_step {l : List Int} {k : Nat} (hk : k < l.length) (h : l[k] = 0) : orE (l.drop k) = orE (l.drop (k + 1)) := by
  rw [List.drop_eq_getElem_cons hk, orE, if_pos h]
theorem orE_hit {l : List Int} {k : Nat} (hk : k < l.length) (h : l[k] ≠ 0) : orE (l.drop k) = l[k] := by
  rw [List.drop_eq_getElem_cons hk, orE, if_neg h]
theorem OrE_any (L : Option Addr) (r s : Nat) (l : List Int) (w : World) (hl : Is w L r l) :
    Calls Try.prog 18 #[.slice L r s] w fun e w' => e = .returned (.int .i64 (orE l)) ∧ w = w' := by
  have hn := hl.small
  have Hn : Hid (r = l.length) := Lib.hid hl.len
  have Hl := Lib.hid hl
  clear hl
  go_enter Try.func18, Try.ntmps18
  go_wp2_with fail
  go_loopw [8] (fun i wr => ∃ (k : Nat), k ≤ r ∧ i = .int .i64 k ∧ w = wr ∧ orE (l.drop k) = orE l) (fun i _ => r - (intOf i).toNat)
  case atStart => exact ⟨0, by omega, rfl, rfl, rfl⟩
  case round =>
    obtain ⟨k, hk, rfl, rfl, hor⟩ := hrel
    have Hor := Lib.hid hor
    clear hor
    by_cases hlt : k < r
    · have hkl : k < l.length := by rw [← Hn.out]; exact hlt
      obtain ⟨b, o, rfl, hb, hc⟩ := Hl.out.get k hkl
      by_cases h0 : l[k] = 0
      · have Ho := Lib.hid (orE_step hkl h0)
        rw [h0] at hc
        go_wp2
        refine ⟨⟨k + 1, by omega, by go_num, trivial, by rw [← Ho.out]; exact Hor.out⟩, by simp [intOf]; omega⟩
      · have Ho := Lib.hid (orE_hit hkl h0)
        generalize l[k] = x at *
        have hx : (x != 0) = true := by simpa using h0
        go_wp2
        go_ret
        exact ⟨ret_int (by rw [← Hor.out, Ho.out]), rfl⟩
    · obtain rfl : k = r := by omega
      have Ho : Hid (orE l = 0) := Lib.hid (by rw [← Hor.out, Hn.out, List.drop_length]; rfl)
      go_wp2
      go_ret
      exact ⟨ret_int Ho.out.symm, rfl⟩
theorem OrI_any (L : Option Addr) (r s : Nat) (l : List Int) (w : World) (hl : Is w L r l) :
    Calls Try.prog 76 #[.slice L r s] w fun e w' => e = .returned (.int .i64 (orE l)) ∧ w = w' := by
  have hn := hl.small
  have Hn : Hid (r = l.length) := Lib.hid hl.len
  have Hl := Lib.hid hl
  clear hl
  go_enter Try.func76, Try.ntmps76
  go_wp2_with fail
  go_loopw [8] (fun i wr => ∃ (k : Nat), k ≤ r ∧ i = .int .i64 k ∧ w = wr ∧ orE (l.drop k) = orE l) (fun i _ => r - (intOf i).toNat)
  case atStart => exact ⟨0, by omega, rfl, rfl, rfl⟩
  case round =>
    obtain ⟨k, hk, rfl, rfl, hor⟩ := hrel
    have Hor := Lib.hid hor
    clear hor
    by_cases hlt : k < r
    · have hkl : k < l.length := by rw [← Hn.out]; exact hlt
      obtain ⟨b, o, rfl, hb, hc⟩ := Hl.out.get k hkl
      by_cases h0 : l[k] = 0
      · have Ho := Lib.hid (orE_step hkl h0)
        rw [h0] at hc
        go_wp2
        refine ⟨⟨k + 1, by omega, by go_num, trivial, by rw [← Ho.out]; exact Hor.out⟩, by simp [intOf]; omega⟩
      · have Ho := Lib.hid (orE_hit hkl h0)
        generalize l[k] = x at *
        have hx : (x != 0) = true := by simpa using h0
        go_wp2
        go_ret
        exact ⟨ret_int (by rw [← Hor.out, Ho.out]), rfl⟩
    · obtain rfl : k = r := by omega
      have Ho : Hid (orE l = 0) := Lib.hid (by rw [← Hor.out, Hn.out, List.drop_length]; rfl)
      go_wp2
      go_ret
      exact ⟨ret_int Ho.out.symm, rfl⟩
def posI (l : List Int) (x : Int) (k : Nat) : Int :=
  match l with
  | [] => -1
  | y :: r => if (x == y) = true then k else posI r x (k + 1)
theorem posI_yes {y x : Int} (r : List Int) (k : Nat) (h : (x == y) = true) : posI (y :: r) x k = k := by unfold posI; rw [if_pos h]
theorem posI_no {y x : Int} (r : List Int) (k : Nat) (h : (x == y) = false) : posI (y :: r) x k = posI r x (k + 1) := by rw [posI, if_neg (by simp [h])]
theorem posI_ge (l : List Int) (x : Int) : ∀ k, decide (posI l x k ≥ 0) = l.contains x := by
  induction l with
  | nil => intro k; rfl
  | cons y r ih =>
    intro k
    cases h : (x == y)
    · rw [posI_no r k h, ih, List.contains_cons, h]; rfl
    · rw [posI_yes r k h, List.contains_cons, h]; simp
theorem Index_any (L : Option Addr) (r s : Nat) (l : List Int) (x : Int) (w : World) (hl : Is w L r l) :
    Calls Try.prog 83 #[.slice L r s, .int .i64 x] w fun e w' => e = .returned (.int .i64 (posI l x 0)) ∧ w = w' := by
  have hn := hl.small
  have Hn : Hid (r = l.length) := Lib.hid hl.len
  have Hl := Lib.hid hl
  clear hl
  go_enter Try.func83, Try.ntmps83
  go_wp2_with fail
  go_loopw [8] (fun i wr => ∃ (k : Nat), k ≤ r ∧ i = .int .i64 k ∧ w = wr ∧ posI (l.drop k) x k = posI l x 0) (fun i _ => r - (intOf i).toNat)
  case atStart => exact ⟨0, by omega, rfl, rfl, rfl⟩
  case round =>
    obtain ⟨k, hk, rfl, rfl, hor⟩ := hrel
    have Hor := Lib.hid hor
    clear hor
    by_cases hlt : k < r
    · have hkl : k < l.length := by rw [← Hn.out]; exact hlt
      obtain ⟨b, o, rfl, hb, hc⟩ := Hl.out.get k hkl
      have Hd := Lib.hid (List.drop_eq_getElem_cons hkl)
      generalize l[k] = y at *
      cases h0 : (x == y)
      · have Ho := Lib.hid (posI_no (l.drop (k + 1)) k h0)
        go_wp2
        refine ⟨⟨k + 1, by omega, by go_num, trivial, by rw [← Ho.out, ← Hd.out]; exact Hor.out⟩, by simp [intOf]; omega⟩
      · have Ho := Lib.hid (posI_yes (l.drop (k + 1)) k h0)
        go_wp2
        go_ret
        exact ⟨ret_int (by rw [← Hor.out, Hd.out, Ho.out]), rfl⟩
    · obtain rfl : k = r := by omega
      have Ho : Hid (posI l x 0 = -1) := Lib.hid (by rw [← Hor.out, Hn.out, List.drop_length]; rfl)
      go_wp2
      go_ret
      exact ⟨ret_int Ho.out.symm, rfl⟩
theorem Contains_any (L : Option Addr) (r s : Nat) (l : List Int) (x : Int) (w : World) (hl : Is w L r l) :
    Calls Try.prog 77 #[.slice L r s, .int .i64 x] w fun e w' => e = .returned (.bool (l.contains x)) ∧ w = w' := by
  have HP := Lib.hid (posI_ge l x 0)
  have HI := Lib.hid (Index_any L r s l x w hl)
  clear hl
  generalize posI l x 0 = q at *
  go_enter Try.func77, Try.ntmps77
  go_wp2_with (go_at_call 83; refine HI.out.mono ?_; rintro e w' ⟨rfl, rfl⟩)
  go_ret
  exact ⟨by rw [← HP.out]; rfl, rfl⟩
def sayN (n h : List Int) (d : Int) : Bool := cntB (n.getD 5 0) (n.getD 6 0) d && (n.getD 1 0 == h.getD 0 0 && inB (n.getD 4 0) (h.getD 6 0) d)
theorem saysOf_any (n h : List Int) (d : Int) (hn : n.length = 7) (hh : h.length = 9) (w : World) :
    Calls Try.prog 65 #[.agg ⟨ints n⟩, .agg ⟨ints h⟩, .int .i64 d] w fun e w' => e = .returned (.bool (sayN n h d)) ∧ Below w.heap.size w w' := by
  obtain ⟨n0, n1, n2, n3, n4, n5, n6, rfl⟩ := list7 hn
  obtain ⟨h0, h1, h2, h3, h4, h5, h6, h7, h8, rfl⟩ := list9 hh
  show Calls Try.prog 65 #[.agg #[.int .i64 n0, .int .i64 n1, .int .i64 n2, .int .i64 n3, .int .i64 n4, .int .i64 n5, .int .i64 n6], .agg #[.int .i64 h0, .int .i64 h1, .int .i64 h2, .int .i64 h3, .int .i64 h4, .int .i64 h5, .int .i64 h6, .int .i64 h7, .int .i64 h8], .int .i64 d] w _
  have HN : Hid (sayN [n0, n1, n2, n3, n4, n5, n6] [h0, h1, h2, h3, h4, h5, h6, h7, h8] d = (cntB n5 n6 d && (n1 == h0 && inB n4 h6 d))) := Lib.hid rfl
  clear hn hh
  go_enter Try.func65, Try.ntmps65
  go_upto_region 1 with fail
  generalize hW : (World.alloc _ _) = W
  have HB : Hid (Below w.heap.size w W) := Lib.hid (by subst hW; go_grown)
  have KN : Bx W (w.heap.size) 49 [.int .i64 n0, .int .i64 n1, .int .i64 n2, .int .i64 n3, .int .i64 n4, .int .i64 n5, .int .i64 n6] := by subst hW; repeat (first | (refine Bx.newAt _ _ _ ?_; first | rfl | (simp only [World.size_alloc]; done) | (simp only [World.size_alloc]; omega)) | refine Bx.old ?_ _)
  have KH : Bx W (w.heap.size + 1) 35 [.int .i64 h0, .int .i64 h1, .int .i64 h2, .int .i64 h3, .int .i64 h4, .int .i64 h5, .int .i64 h6, .int .i64 h7, .int .i64 h8] := by subst hW; repeat (first | (refine Bx.newAt _ _ _ ?_; first | rfl | (simp only [World.size_alloc]; done) | (simp only [World.size_alloc]; omega)) | refine Bx.old ?_ _)
  have hWs : Hid (W.heap.size = w.heap.size + 1 + 1) := Lib.hid (by subst hW; simp)
  clear hW
  have KNl := KN.lt; have KNc := KN.get; have KNf := KN.fr; have KHl := KH.lt; have KHc := KH.get; have KHf := KH.fr
  go_wp2_with (first
    | (go_at_call 35; refine (counts_any _ _ _ _).mono ?_; rintro e w' ⟨rfl, rfl⟩; generalize hq : cntB _ _ _ = q; cases q)
    | (go_at_call 72; refine (within_any _ _ _ _).mono ?_; rintro e w' ⟨rfl, rfl⟩; generalize hq2 : inB _ _ _ = q; cases q))
  all_goals (go_ret; refine ⟨?_, HB.out⟩; rw [HN.out]; first | (simp [*]; done) | (refine rbEq ?_; simp [*]))
end Go.Proofs.Ytjimjdhdnkhfnaa
namespace Go.Proofs.Ytjimjdhdnkhfnaa
open Go Go.RowKit
set_option maxHeartbeats 4000000
set_option maxRecDepth 100000
def sayL (N : List (List Int)) (h : List Int) (d : Int) : List (List Int) := N.filter (fun n => sayN n h d)
end Go.Proofs.Ytjimjdhdnkhfnaa
namespace Go.Proofs.Ytjimjdhdnkhfnaa
open Go Go.RowKit
set_option maxHeartbeats 4000000
set_option maxRecDepth 100000
def lotE (T N : List (List Int)) (h : List Int) (day : Int) : List Int :=
  [-1, leaN 2 (sayL N h day), marN T h day, if stoN (sayL N h day) < 0 ∨ stoN (sayL N h day) > h.getD 6 0 + 360 then h.getD 6 0 + 361 else -1, h.getD 6 0 + 720]
def lotS (E : List Int) (day : Int) (a : Int × Int) (i : Nat) : Int × Int :=
  if E.getD (i + 1) 0 ≥ 0 ∧ E.getD (i + 1) 0 ≤ day ∧ (a.2 < 0 ∨ E.getD (i + 1) 0 < a.2) then ((i : Int) + 1, E.getD (i + 1) 0) else a
def lotK (E : List Int) (day : Int) (k : Nat) : Int × Int := (List.range k).foldl (lotS E day) (0, -1)
def lotN (T N : List (List Int)) (h : List Int) (day : Int) : List Int :=
  [owrN (sayL N h day), stoN (sayL N h day), (lotK (lotE T N h day) day 4).1, (lotK (lotE T N h day) day 4).2]
theorem lotK_succ (E : List Int) (day : Int) (k : Nat) : lotK E day (k + 1) = lotS E day (lotK E day k) k := by
  unfold lotK; rw [List.range_succ, List.foldl_append]; rfl
end Go.Proofs.Ytjimjdhdnkhfnaa
namespace Go.Proofs.Ytjimjdhdnkhfnaa
open Go Go.RowKit
set_option maxHeartbeats 1000000
set_option maxRecDepth 100000
def lasN (lt : List Int) (kn : Int) : Int := if lt.getD 2 0 = 0 then kn else if lt.getD 2 0 = 2 then lt.getD 3 0 else lt.getD 3 0 - 1
end Go.Proofs.Ytjimjdhdnkhfnaa

namespace Go.Proofs.Ytjimjdhdnkhfnaa
open Go Go.RowKit
set_option maxHeartbeats 2000000
set_option maxRecDepth 100000
def lsAt (ok : List Int → Bool) (L : List (List Int)) (i : Nat) : Bool := ok (L.getD i []) && (i == 0 || decide ((L.getD (i - 1) []).getD 0 0 < (L.getD i []).getD 0 0))
def lsK (ok : List Int → Bool) (L : List (List Int)) (k : Nat) : Bool := (List.range k).all (lsAt ok L)
def lsOk (ok : List Int → Bool) (most : Nat) (L : List (List Int)) : Bool := decide (L.length ≤ most) && lsK ok L L.length
theorem lsK_succ (ok : List Int → Bool) (L : List (List Int)) (k : Nat) : lsK ok L (k + 1) = (lsK ok L k && lsAt ok L k) := by
  unfold lsK; rw [List.range_succ, List.all_append]; simp
theorem lsK_bad {ok : List Int → Bool} {L : List (List Int)} {k : Nat} (h : k < L.length) (hb : lsAt ok L k = false) : lsK ok L L.length = false := by
  unfold lsK; rw [List.all_eq_false]; exact ⟨k, List.mem_range.2 h, by simp [hb]⟩
theorem lsAt_eq {ok : List Int → Bool} {L : List (List Int)} {k : Nat} (h : k < L.length) : lsAt ok L k = (ok L[k] && (k == 0 || decide ((L.getD (k - 1) []).getD 0 0 < L[k].getD 0 0))) := by
  unfold lsAt; rw [show L.getD k [] = L[k] by simp [h]]
theorem sourceOfNote_any (n : List Int) (hn : n.length = 7) (w : World) :
    Calls Try.prog 48 #[.agg ⟨ints n⟩] w fun e w' => e = .returned (.int .i64 (n.getD 0 0)) ∧ Below w.heap.size w w' := by
  obtain ⟨n0, n1, n2, n3, n4, n5, n6, rfl⟩ := list7 hn
  show Calls Try.prog 48 #[.agg #[.int .i64 n0, .int .i64 n1, .int .i64 n2, .int .i64 n3, .int .i64 n4, .int .i64 n5, .int .i64 n6]] w _
  go_enter Try.func48, Try.ntmps48
  go_wp2; go_ret; exact ⟨rfl, by go_grown⟩
theorem validNotes_any (A : Option Addr) (n c : Nat) (L : List (List Int)) (most : Nat) (w : World) (hL : Rw w A n 7 L) (hm : most ≤ 1000) :
    Calls Try.prog 47 #[.slice A n c, .int .i64 (most : Int), .func (.func 20) #[] #[], .func (.func 48) #[] #[]] w fun e w' => e = .returned (.bool (lsOk noteOk most L)) ∧ Below w.heap.size w w' := by
  have hs := hL.small
  have Hn : Hid (n = L.length) := Lib.hid hL.len
  have HL := Lib.hid hL
  clear hL
  by_cases hnm : (n : Int) > (most : Int)
  · have HX : Hid (lsOk noteOk most L = false) := Lib.hid (by unfold lsOk; rw [decide_eq_false (by rw [← Hn.out]; omega)]; rfl)
    go_enter Try.func47, Try.ntmps47
    go_wp2
    go_ret; exact ⟨by rw [HX.out]; rfl, Below.refl _ _⟩
  · have HX : Hid (lsOk noteOk most L = lsK noteOk L L.length) := Lib.hid (by unfold lsOk; rw [decide_eq_true (by rw [← Hn.out]; omega)]; rfl)
    go_enter Try.func47, Try.ntmps47
    go_wp2_with fail
    go_loopw [17] (fun i wr => ∃ (k : Nat), k ≤ n ∧ i = .int .i64 k ∧ lsK noteOk L k = true ∧ Below w.heap.size w wr) (fun i _ => n - (intOf i).toNat)
    case atStart => exact ⟨0, by omega, rfl, rfl, Below.refl _ _⟩
    case round =>
      obtain ⟨k, hk, rfl, hr, hb⟩ := hrel
      have Hr := Lib.hid hr
      have HB := Lib.hid hb
      clear hr hb
      by_cases hlt : k < n
      · have hkl : k < L.length := by rw [← Hn.out]; exact hlt
        obtain ⟨b, o, rfl, hbl, hc⟩ := (HL.out.keep HB.out).get k hkl
        have h7 : (L[k]).length = 7 := HL.out.at hkl
        have Hs := Lib.hid (lsK_succ noteOk L k)
        have Ha := Lib.hid (lsAt_eq (ok := noteOk) hkl)
        have Hbad := Lib.hid (fun h => lsK_bad (ok := noteOk) hkl h)
        have Hc := Lib.hid hc
        have HCk := Lib.hid (fun W => checkNote_any L[k] h7 W)
        have HSo : Hid (∀ (a0 a1 a2 a3 a4 a5 a6 : Int) W, Calls Try.prog 48 #[.agg #[.int .i64 a0, .int .i64 a1, .int .i64 a2, .int .i64 a3, .int .i64 a4, .int .i64 a5, .int .i64 a6]] W fun e w' => e = .returned (.int .i64 a0) ∧ Below W.heap.size W w') := Lib.hid (fun a0 a1 a2 a3 a4 a5 a6 W => sourceOfNote_any [a0, a1, a2, a3, a4, a5, a6] rfl W)
        have HRw := Lib.hid (HL.out.keep HB.out)
        generalize L[k] = q at *
        generalize noteOk q = okq at *
        obtain ⟨q0, q1, q2, q3, q4, q5, q6, rfl⟩ := list7 h7
        replace HCk : Hid (∀ W, Calls Try.prog 20 #[.agg #[.int .i64 q0, .int .i64 q1, .int .i64 q2, .int .i64 q3, .int .i64 q4, .int .i64 q5, .int .i64 q6]] W fun e w' => e = .returned (.int .i64 (err okq 62)) ∧ Below W.heap.size W w') := HCk
        clear hc
        go_upto_region 6 with (first
          | (refine wpList_getAt 49 20 rfl rfl Hc.out rfl Try.underlying49 rfl (sz_n h7) ?_)
          | (refine wpList_putNew 49 10 21 rfl rfl rfl rfl (sa_n h7) rfl (ints_one _) ?_; intro U KU hbu hsu; replace KU : Bx U wr.heap.size 49 [.int .i64 q0, .int .i64 q1, .int .i64 q2, .int .i64 q3, .int .i64 q4, .int .i64 q5, .int .i64 q6] := KU; have KUl := KU.lt; have KUc := KU.get; have KUf := KU.fr; replace HB := Lib.hid (up HB.out hbu)))
        cases okq
        · replace HCk : Hid (∀ W, Calls Try.prog 20 #[.agg #[.int .i64 q0, .int .i64 q1, .int .i64 q2, .int .i64 q3, .int .i64 q4, .int .i64 q5, .int .i64 q6]] W fun e w' => e = .returned (.int .i64 62) ∧ Below W.heap.size W w') := HCk
          have Hbd : Hid (lsK noteOk L L.length = false) := Lib.hid (Hbad.out (by rw [Ha.out]; rfl))
          simp only [Act.put]
          refine wp_region_grow (by kernel_rfl) (by kernel_rfl) ?_
          repeat (go_big_quiet_step ((first | (go_at_call 20; exact quiet_grow rfl (HCk.out _)) | (go_at_call 48; exact quiet_grow rfl (HSo.out _ _ _ _ _ _ _ _)))))
          refine wpQuiet_nil ?_
          intro z
          have hbz := grow_below U z
          generalize grow U z = V at *
          clear KUl KUc KUf; replace KU := KU.keep hbz; have KUl := KU.lt; have KUc := KU.get; have KUf := KU.fr; replace HB := Lib.hid (up HB.out hbz); clear hbz
          go_wp2
          go_ret; exact ⟨by rw [HX.out, Hbd.out]; rfl, HB.out⟩
        · replace HCk : Hid (∀ W, Calls Try.prog 20 #[.agg #[.int .i64 q0, .int .i64 q1, .int .i64 q2, .int .i64 q3, .int .i64 q4, .int .i64 q5, .int .i64 q6]] W fun e w' => e = .returned (.int .i64 0) ∧ Below W.heap.size W w') := HCk
          rcases Nat.eq_zero_or_pos k with rfl | hk0
          · have Hgd : Hid (lsK noteOk L (0 + 1) = true) := Lib.hid (by rw [Hs.out, Hr.out, Ha.out]; rfl)
            simp only [Act.put]
            refine wp_region_grow (by kernel_rfl) (by kernel_rfl) ?_
            repeat (go_big_quiet_step ((first | (go_at_call 20; exact quiet_grow rfl (HCk.out _)) | (go_at_call 48; exact quiet_grow rfl (HSo.out _ _ _ _ _ _ _ _)))))
            refine wpQuiet_nil ?_
            intro z
            have hbz := grow_below U z
            generalize grow U z = V at *
            clear KUl KUc KUf; replace KU := KU.keep hbz; have KUl := KU.lt; have KUc := KU.get; have KUf := KU.fr; replace HB := Lib.hid (up HB.out hbz); clear hbz
            go_wp2
            exact ⟨⟨0 + 1, by omega, by go_num, Hgd.out, HB.out⟩, by simp [intOf]; omega⟩
          · obtain ⟨k1, hk1⟩ : ∃ k1 : Nat, (k : Int) - 1 = (k1 : Int) := ⟨k - 1, by omega⟩
            have hkk : k1 + 1 = k := by omega
            have hk1l : k1 < L.length := by omega
            have e1 : IntKind.i64.wrap ((k : Int) - 1) = (k1 : Int) := by rw [IntWalk.i64_in _ (by omega), hk1]
            have hkpos : (k : Int) > 0 := by omega
            have hk1n : k1 < n := by omega
            obtain ⟨b2, o2, eb, hbl2, hc2⟩ := HRw.out.get k1 hk1l
            cases eb
            have hp7 : (L[k1]).length = 7 := HRw.out.at hk1l
            have Hg2 : Hid (L.getD (k - 1) [] = L[k1]) := Lib.hid (by rw [show k - 1 = k1 by omega]; simp [hk1l])
            generalize L[k1] = p at *
            obtain ⟨p0, p1, p2, p3, p4, p5, p6, rfl⟩ := list7 hp7
            have hbU : b < U.heap.size := by omega
            obtain ⟨d0, d1, d2, d3, d4, d5, d6⟩ := cells7 (rangeAt_keep hc2 hbl hbu)
            clear hc2 hkk
            by_cases hpq : p0 < q0
            · have Hgd : Hid (lsK noteOk L (k + 1) = true) := Lib.hid (by rw [Hs.out, Hr.out, Ha.out, Hg2.out]; simp [hpq])
              have hge : ¬ p0 ≥ q0 := by omega
              simp only [Act.put]
              refine wp_region_grow (by kernel_rfl) (by kernel_rfl) ?_
              repeat (go_big_quiet_step ((first | (go_at_call 20; exact quiet_grow rfl (HCk.out _)) | (go_at_call 48; exact quiet_grow rfl (HSo.out _ _ _ _ _ _ _ _)))))
              refine wpQuiet_nil ?_
              intro z
              have hbz := grow_below U z
              generalize grow U z = V at *
              clear KUl KUc KUf; replace KU := KU.keep hbz; have KUl := KU.lt; have KUc := KU.get; have KUf := KU.fr; replace HB := Lib.hid (up HB.out hbz); clear hbz
              clear d0 d1 d2 d3 d4 d5 d6 hbu hsu
              go_wp2
              exact ⟨⟨k + 1, by omega, by go_num, Hgd.out, HB.out⟩, by simp [intOf]; omega⟩
            · have Hbd : Hid (lsK noteOk L L.length = false) := Lib.hid (Hbad.out (by rw [Ha.out, Hg2.out]; simp [hpq]; omega))
              have hge : p0 ≥ q0 := by omega
              simp only [Act.put]
              refine wp_region_grow (by kernel_rfl) (by kernel_rfl) ?_
              repeat (go_big_quiet_step ((first | (go_at_call 20; exact quiet_grow rfl (HCk.out _)) | (go_at_call 48; exact quiet_grow rfl (HSo.out _ _ _ _ _ _ _ _)))))
              refine wpQuiet_nil ?_
              intro z
              have hbz := grow_below U z
              generalize grow U z = V at *
              clear KUl KUc KUf; replace KU := KU.keep hbz; have KUl := KU.lt; have KUc := KU.get; have KUf := KU.fr; replace HB := Lib.hid (up HB.out hbz); clear hbz
              clear d0 d1 d2 d3 d4 d5 d6 hbu hsu
              go_wp2
              go_ret; exact ⟨by rw [HX.out, Hbd.out]; rfl, HB.out⟩
      · obtain rfl : k = n := by omega
        have Hfin : Hid (lsK noteOk L L.length = true) := Lib.hid (by rw [← Hn.out]; exact Hr.out)
        go_wp2
        go_ret; exact ⟨by rw [HX.out, Hfin.out]; rfl, HB.out⟩
end Go.Proofs.Ytjimjdhdnkhfnaa
namespace Go.Proofs.Ytjimjdhdnkhfnaa
open Go Go.RowKit
set_option maxHeartbeats 4000000
set_option maxRecDepth 100000
theorem sourceOfStay_any (n : List Int) (hn : n.length = 9) (w : World) :
    Calls Try.prog 46 #[.agg ⟨ints n⟩] w fun e w' => e = .returned (.int .i64 (n.getD 0 0)) ∧ Below w.heap.size w w' := by
  obtain ⟨n0, n1, n2, n3, n4, n5, n6, n7, n8, rfl⟩ := list9 hn
  show Calls Try.prog 46 #[.agg #[.int .i64 n0, .int .i64 n1, .int .i64 n2, .int .i64 n3, .int .i64 n4, .int .i64 n5, .int .i64 n6, .int .i64 n7, .int .i64 n8]] w _
  go_enter Try.func46, Try.ntmps46
  go_wp2; go_ret; exact ⟨rfl, by go_grown⟩
theorem validStays_any (A : Option Addr) (n c : Nat) (L : List (List Int)) (most : Nat) (w : World) (hL : Rw w A n 9 L) (hm : most ≤ 1000) :
    Calls Try.prog 44 #[.slice A n c, .int .i64 (most : Int), .func (.func 45) #[] #[], .func (.func 46) #[] #[]] w fun e w' => e = .returned (.bool (lsOk heldOk most L)) ∧ Below w.heap.size w w' := by
  have hs := hL.small
  have Hn : Hid (n = L.length) := Lib.hid hL.len
  have HL := Lib.hid hL
  clear hL
  by_cases hnm : (n : Int) > (most : Int)
  · have HX : Hid (lsOk heldOk most L = false) := Lib.hid (by unfold lsOk; rw [decide_eq_false (by rw [← Hn.out]; omega)]; rfl)
    go_enter Try.func44, Try.ntmps44
    go_wp2
    go_ret; exact ⟨by rw [HX.out]; rfl, Below.refl _ _⟩
  · have HX : Hid (lsOk heldOk most L = lsK heldOk L L.length) := Lib.hid (by unfold lsOk; rw [decide_eq_true (by rw [← Hn.out]; omega)]; rfl)
    go_enter Try.func44, Try.ntmps44
    go_wp2_with fail
    go_loopw [17] (fun i wr => ∃ (k : Nat), k ≤ n ∧ i = .int .i64 k ∧ lsK heldOk L k = true ∧ Below w.heap.size w wr) (fun i _ => n - (intOf i).toNat)
    case atStart => exact ⟨0, by omega, rfl, rfl, Below.refl _ _⟩
    case round =>
      obtain ⟨k, hk, rfl, hr, hb⟩ := hrel
      have Hr := Lib.hid hr
      have HB := Lib.hid hb
      clear hr hb
      by_cases hlt : k < n
      · have hkl : k < L.length := by rw [← Hn.out]; exact hlt
        obtain ⟨b, o, rfl, hbl, hc⟩ := (HL.out.keep HB.out).get k hkl
        have h7 : (L[k]).length = 9 := HL.out.at hkl
        have Hs := Lib.hid (lsK_succ heldOk L k)
        have Ha := Lib.hid (lsAt_eq (ok := heldOk) hkl)
        have Hbad := Lib.hid (fun h => lsK_bad (ok := heldOk) hkl h)
        have Hc := Lib.hid hc
        have HCk := Lib.hid (fun W => checkHeld_any L[k] h7 W)
        have HSo : Hid (∀ (a0 a1 a2 a3 a4 a5 a6 a7 a8 : Int) W, Calls Try.prog 46 #[.agg #[.int .i64 a0, .int .i64 a1, .int .i64 a2, .int .i64 a3, .int .i64 a4, .int .i64 a5, .int .i64 a6, .int .i64 a7, .int .i64 a8]] W fun e w' => e = .returned (.int .i64 a0) ∧ Below W.heap.size W w') := Lib.hid (fun a0 a1 a2 a3 a4 a5 a6 a7 a8 W => sourceOfStay_any [a0, a1, a2, a3, a4, a5, a6, a7, a8] rfl W)
        have HRw := Lib.hid (HL.out.keep HB.out)
        generalize L[k] = q at *
        generalize heldOk q = okq at *
        obtain ⟨q0, q1, q2, q3, q4, q5, q6, q7, q8, rfl⟩ := list9 h7
        replace HCk : Hid (∀ W, Calls Try.prog 45 #[.agg #[.int .i64 q0, .int .i64 q1, .int .i64 q2, .int .i64 q3, .int .i64 q4, .int .i64 q5, .int .i64 q6, .int .i64 q7, .int .i64 q8]] W fun e w' => e = .returned (.int .i64 (err okq 61)) ∧ Below W.heap.size W w') := HCk
        clear hc
        go_upto_region 6 with (first
          | (refine wpList_getAt 35 20 rfl rfl Hc.out rfl Try.underlying35 rfl (sz_h h7) ?_)
          | (refine wpList_putNew 35 10 21 rfl rfl rfl rfl (sa_h h7) rfl (ints_one _) ?_; intro U KU hbu hsu; replace KU : Bx U wr.heap.size 35 [.int .i64 q0, .int .i64 q1, .int .i64 q2, .int .i64 q3, .int .i64 q4, .int .i64 q5, .int .i64 q6, .int .i64 q7, .int .i64 q8] := KU; have KUl := KU.lt; have KUc := KU.get; have KUf := KU.fr; replace HB := Lib.hid (up HB.out hbu)))
        cases okq
        · replace HCk : Hid (∀ W, Calls Try.prog 45 #[.agg #[.int .i64 q0, .int .i64 q1, .int .i64 q2, .int .i64 q3, .int .i64 q4, .int .i64 q5, .int .i64 q6, .int .i64 q7, .int .i64 q8]] W fun e w' => e = .returned (.int .i64 61) ∧ Below W.heap.size W w') := HCk
          have Hbd : Hid (lsK heldOk L L.length = false) := Lib.hid (Hbad.out (by rw [Ha.out]; rfl))
          simp only [Act.put]
          refine wp_region_grow (by kernel_rfl) (by kernel_rfl) ?_
          repeat (go_big_quiet_step ((first | (go_at_call 45; exact quiet_grow rfl (HCk.out _)) | (go_at_call 46; exact quiet_grow rfl (HSo.out _ _ _ _ _ _ _ _ _ _)))))
          refine wpQuiet_nil ?_
          intro z
          have hbz := grow_below U z
          generalize grow U z = V at *
          clear KUl KUc KUf; replace KU := KU.keep hbz; have KUl := KU.lt; have KUc := KU.get; have KUf := KU.fr; replace HB := Lib.hid (up HB.out hbz); clear hbz
          go_wp2
          go_ret; exact ⟨by rw [HX.out, Hbd.out]; rfl, HB.out⟩
        · replace HCk : Hid (∀ W, Calls Try.prog 45 #[.agg #[.int .i64 q0, .int .i64 q1, .int .i64 q2, .int .i64 q3, .int .i64 q4, .int .i64 q5, .int .i64 q6, .int .i64 q7, .int .i64 q8]] W fun e w' => e = .returned (.int .i64 0) ∧ Below W.heap.size W w') := HCk
          rcases Nat.eq_zero_or_pos k with rfl | hk0
          · have Hgd : Hid (lsK heldOk L (0 + 1) = true) := Lib.hid (by rw [Hs.out, Hr.out, Ha.out]; rfl)
            simp only [Act.put]
            refine wp_region_grow (by kernel_rfl) (by kernel_rfl) ?_
            repeat (go_big_quiet_step ((first | (go_at_call 45; exact quiet_grow rfl (HCk.out _)) | (go_at_call 46; exact quiet_grow rfl (HSo.out _ _ _ _ _ _ _ _ _ _)))))
            refine wpQuiet_nil ?_
            intro z
            have hbz := grow_below U z
            generalize grow U z = V at *
            clear KUl KUc KUf; replace KU := KU.keep hbz; have KUl := KU.lt; have KUc := KU.get; have KUf := KU.fr; replace HB := Lib.hid (up HB.out hbz); clear hbz
            go_wp2
            exact ⟨⟨0 + 1, by omega, by go_num, Hgd.out, HB.out⟩, by simp [intOf]; omega⟩
          · obtain ⟨k1, hk1⟩ : ∃ k1 : Nat, (k : Int) - 1 = (k1 : Int) := ⟨k - 1, by omega⟩
            have hkk : k1 + 1 = k := by omega
            have hk1l : k1 < L.length := by omega
            have e1 : IntKind.i64.wrap ((k : Int) - 1) = (k1 : Int) := by rw [IntWalk.i64_in _ (by omega), hk1]
            have hkpos : (k : Int) > 0 := by omega
            have hk1n : k1 < n := by omega
            obtain ⟨b2, o2, eb, hbl2, hc2⟩ := HRw.out.get k1 hk1l
            cases eb
            have hp7 : (L[k1]).length = 9 := HRw.out.at hk1l
            have Hg2 : Hid (L.getD (k - 1) [] = L[k1]) := Lib.hid (by rw [show k - 1 = k1 by omega]; simp [hk1l])
            generalize L[k1] = p at *
            obtain ⟨p0, p1, p2, p3, p4, p5, p6, p7, p8, rfl⟩ := list9 hp7
            have hbU : b < U.heap.size := by omega
            obtain ⟨d0, d1, d2, d3, d4, d5, d6, d7, d8⟩ := cells9 (rangeAt_keep hc2 hbl hbu)
            clear hc2 hkk
            by_cases hpq : p0 < q0
            · have Hgd : Hid (lsK heldOk L (k + 1) = true) := Lib.hid (by rw [Hs.out, Hr.out, Ha.out, Hg2.out]; simp [hpq])
              have hge : ¬ p0 ≥ q0 := by omega
              simp only [Act.put]
              refine wp_region_grow (by kernel_rfl) (by kernel_rfl) ?_
              repeat (go_big_quiet_step ((first | (go_at_call 45; exact quiet_grow rfl (HCk.out _)) | (go_at_call 46; exact quiet_grow rfl (HSo.out _ _ _ _ _ _ _ _ _ _)))))
              refine wpQuiet_nil ?_
              intro z
              have hbz := grow_below U z
              generalize grow U z = V at *
              clear KUl KUc KUf; replace KU := KU.keep hbz; have KUl := KU.lt; have KUc := KU.get; have KUf := KU.fr; replace HB := Lib.hid (up HB.out hbz); clear hbz
              clear d0 d1 d2 d3 d4 d5 d6 d7 d8 hbu hsu
              go_wp2
              exact ⟨⟨k + 1, by omega, by go_num, Hgd.out, HB.out⟩, by simp [intOf]; omega⟩
            · have Hbd : Hid (lsK heldOk L L.length = false) := Lib.hid (Hbad.out (by rw [Ha.out, Hg2.out]; simp [hpq]; omega))
              have hge : p0 ≥ q0 := by omega
              simp only [Act.put]
              refine wp_region_grow (by kernel_rfl) (by kernel_rfl) ?_
              repeat (go_big_quiet_step ((first | (go_at_call 45; exact quiet_grow rfl (HCk.out _)) | (go_at_call 46; exact quiet_grow rfl (HSo.out _ _ _ _ _ _ _ _ _ _)))))
              refine wpQuiet_nil ?_
              intro z
              have hbz := grow_below U z
              generalize grow U z = V at *
              clear KUl KUc KUf; replace KU := KU.keep hbz; have KUl := KU.lt; have KUc := KU.get; have KUf := KU.fr; replace HB := Lib.hid (up HB.out hbz); clear hbz
              clear d0 d1 d2 d3 d4 d5 d6 d7 d8 hbu hsu
              go_wp2
              go_ret; exact ⟨by rw [HX.out, Hbd.out]; rfl, HB.out⟩
      · obtain rfl : k = n := by omega
        have Hfin : Hid (lsK heldOk L L.length = true) := Lib.hid (by rw [← Hn.out]; exact Hr.out)
        go_wp2
        go_ret; exact ⟨by rw [HX.out, Hfin.out]; rfl, HB.out⟩
end Go.Proofs.Ytjimjdhdnkhfnaa

