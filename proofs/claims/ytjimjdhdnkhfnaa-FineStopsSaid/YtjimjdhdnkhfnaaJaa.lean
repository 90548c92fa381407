/- Contracts of functions of the program and of the reference, a calculus of states, and plain facts: a part of a proof. Own text. -/
import Derived.WalkKit
import Derived.Below
import Derived.Laws.AppendOwn
import Derived.Deep.MidRow
import Derived.Laws.CopyRow
import Derived.CallsIn
import Derived.OrdersIn
import Derived.TacticsIn
import Derived.ControlIn
import Derived.ChangeKeysEq
set_option linter.unusedVariables false
set_option linter.unusedSimpArgs false
set_option linter.unusedSectionVars false
set_option linter.unnecessarySimpa false
namespace Go.Proofs.Ytjimjdhdnkhfnaa
open Go Go.RowKit
inductive PV where
  | int (k : IntKind) (n : Int)
  | bool (b : Bool)
  | str (s : ByteArray)
  | nil
  | nilp
  | nilf
  | agg (cs : List PV)
  | list (k : Nat) (es : List (List PV))
  | ptr (cs : List PV)
  | fn (f : Fn) (first captured : List PV)
  | tup (vs : List PV)
  | nilm
  | map (ka va : Bool) (kz : List PV) (es : List (List PV))
  | own (e : TypeId) (k : Nat) (es : List (List PV))
  | mark
  deriving Inhabited
def eqS : PV → PV → Bool
  | .int _ a, .int _ b => a == b
  | .bool a, .bool b => a == b
  | .str a, .str b => a.toList == b.toList
  | _, _ => false
def eqPs : List PV → List PV → Bool
  | [], [] => true
  | p :: ps, q :: qs => eqS p q && eqPs ps qs
  | _, _ => false
def kindB : PV → PV → Bool
  | .int .i64 _, .int .i64 _ => true
  | .bool _, .bool _ => true
  | .str _, .str _ => true
  | _, _ => false
def kindsB : List PV → List PV → Bool
  | [], [] => true
  | z :: zs, p :: ps => kindB z p && kindsB zs ps
  | _, _ => false
def valOf : Bool → List Value → Value
  | true, us => .agg us.toArray
  | false, us => us.headD undef
structure MapOK (ms : List MapEntry) (clock : Nat) : Prop where
  lt : ∀ m ∈ ms, m.born < clock
  nd : (ms.map (·.born)).Nodup
mutual
def RepP (im : Nat → Prop) (w : World) : PV → Value → Prop
  | .int k n, u => u = .int k n
  | .bool b, u => u = .bool b
  | .str s, u => u = .string s
  | .nil, u => u = .slice none 0 0
  | .nilp, u => u = .pointer none
  | .nilf, u => u = .nilFunc
  | .agg cs, u => ∃ us : List Value, u = .agg us.toArray ∧ RepL im w cs us
  | .list k es, u => ∃ A n c, u = .slice A n c ∧ n = es.length ∧ n ≤ c ∧ c ≤ maxLen ∧ (es = [] ∨ ∃ b o, A = some ⟨b, o, none⟩ ∧ im b ∧ RepE im w k es b o)
  | .ptr cs, u => ∃ b o us, u = .pointer (some ⟨b, o, none⟩) ∧ im b ∧ w.rangeAt b o us ∧ RepL im w cs us
  | .fn f a c, u => ∃ az cs : List Value, u = .func f az.toArray cs.toArray ∧ RepL im w a az ∧ RepL im w c cs
  | .tup vs, u => ∃ us : List Value, u = .tuple us.toArray ∧ RepL im w vs us
  | .nilm, u => u = .map none
  | .own _ _ _, _ => False
  | .mark, _ => False
  | .map ka va kz es, u => ∃ b ms clock, u = .map (some b) ∧ im b ∧ w.heap[b]? = some (.map ms clock) ∧ MapOK ms.toList clock ∧ RepM im w ka va kz es ms.toList
def RepL (im : Nat → Prop) (w : World) : List PV → List Value → Prop
  | [], us => us = []
  | p :: ps, us => ∃ x xs, us = x :: xs ∧ RepP im w p x ∧ RepL im w ps xs
def RepE (im : Nat → Prop) (w : World) (k : Nat) : List (List PV) → Nat → Nat → Prop
  | [], _, _ => True
  | e :: es, b, o => (∃ us : List Value, us.length = k ∧ (∀ u ∈ us, u.oneCell' = true) ∧ w.rangeAt b o us ∧ RepL im w e us) ∧ RepE im w k es b (o + k)
def RepM (im : Nat → Prop) (w : World) (ka va : Bool) (kz : List PV) : List (List PV) → List MapEntry → Prop
  | [], ms => ms = []
  | e :: es, ms => ∃ m r, ∃ us : List Value, ms = m :: r ∧ RepL im w e us ∧ (∀ u ∈ us, u.oneCell' = true) ∧ kindsB kz (e.take kz.length) = true ∧ m.key = valOf ka (us.take kz.length) ∧ m.val = valOf va (us.drop kz.length) ∧ RepM im w ka va kz es r
end
def Keeps (im : Nat → Prop) (w : World) (im' : Nat → Prop) (w' : World) : Prop := ∀ b, im b → im' b ∧ w'.heap[b]? = w.heap[b]?
theorem Keeps.refl (im : Nat → Prop) (w : World) : Keeps im w im w := fun _ h => ⟨h, rfl⟩
theorem Keeps.trans {im im' im'' : Nat → Prop} {w w' w'' : World} (h : Keeps im w im' w') (k : Keeps im' w' im'' w'') : Keeps im w im'' w'' :=
  fun b hb => ⟨(k b (h b hb).1).1, (k b (h b hb).1).2.trans (h b hb).2⟩
theorem rangeAt_block {w w' : World} {b o : Nat} {us : List Value} (h : w.rangeAt b o us) (hb : w'.heap[b]? = w.heap[b]?) : w'.rangeAt b o us :=
  fun j v hv => (World.cell?_of_block (w := w) (a := ⟨b, o + j, none⟩) hb).trans (h j v hv)
mutual
theorem RepP.keep {im im' : Nat → Prop} {w w' : World} (hk : Keeps im w im' w') : ∀ (p : PV) (u : Value), RepP im w p u → RepP im' w' p u
  | .int _ _, _, h | .bool _, _, h | .str _, _, h | .nil, _, h | .nilp, _, h | .nilf, _, h | .nilm, _, h => h
  | .own _ _ _, _, h | .mark, _, h => by simp only [RepP] at h
  | .agg cs, u, h => by
    simp only [RepP] at h ⊢
    obtain ⟨us, rfl, h⟩ := h
    exact ⟨us, rfl, RepL.keep hk cs us h⟩
  | .list k es, u, h => by
    simp only [RepP] at h ⊢
    obtain ⟨A, n, c, rfl, h1, h2, hm, h3⟩ := h
    refine ⟨A, n, c, rfl, h1, h2, hm, ?_⟩
    rcases h3 with h3 | ⟨b, o, rfl, hb, he⟩
    · exact .inl h3
    · exact .inr ⟨b, o, rfl, (hk b hb).1, RepE.keep hk k es b o hb he⟩
  | .ptr cs, u, h => by
    simp only [RepP] at h ⊢
    obtain ⟨b, o, us, rfl, hb, hr, hl⟩ := h
    exact ⟨b, o, us, rfl, (hk b hb).1, rangeAt_block hr (hk b hb).2, RepL.keep hk cs us hl⟩
  | .fn f a c, u, h => by
    simp only [RepP] at h ⊢
    obtain ⟨az, cs, rfl, h1, h2⟩ := h
    exact ⟨az, cs, rfl, RepL.keep hk a az h1, RepL.keep hk c cs h2⟩
  | .tup vs, u, h => by
    simp only [RepP] at h ⊢
    obtain ⟨us, rfl, h⟩ := h
    exact ⟨us, rfl, RepL.keep hk vs us h⟩
  | .map ka va kz es, u, h => by
    simp only [RepP] at h ⊢
    obtain ⟨b, ms, clock, rfl, hb, hw, hok, hm⟩ := h
    exact ⟨b, ms, clock, rfl, (hk b hb).1, (hk b hb).2.trans hw, hok, RepM.keep hk ka va kz es _ hm⟩
theorem RepL.keep {im im' : Nat → Prop} {w w' : World} (hk : Keeps im w im' w') : ∀ (ps : List PV) (us : List Value), RepL im w ps us → RepL im' w' ps us
  | [], _, h => h
  | p :: ps, us, h => by
    simp only [RepL] at h ⊢
    obtain ⟨x, xs, rfl, h1, h2⟩ := h
    exact ⟨x, xs, rfl, RepP.keep hk p x h1, RepL.keep hk ps xs h2⟩
theorem RepE.keep {im im' : Nat → Prop} {w w' : World} (hk : Keeps im w im' w') (k : Nat) : ∀ (es : List (List PV)) (b o : Nat), im b → RepE im w k es b o → RepE im' w' k es b o
  | [], _, _, _, _ => trivial
  | e :: es, b, o, hb, h => by
    simp only [RepE] at h ⊢
    obtain ⟨⟨us, hl, ho, hr, he⟩, h2⟩ := h
    exact ⟨⟨us, hl, ho, rangeAt_block hr (hk b hb).2, RepL.keep hk e us he⟩, RepE.keep hk k es b (o + k) hb h2⟩
theorem RepM.keep {im im' : Nat → Prop} {w w' : World} (hk : Keeps im w im' w') (ka va : Bool) (kz : List PV) : ∀ (es : List (List PV)) (ms : List MapEntry), RepM im w ka va kz es ms → RepM im' w' ka va kz es ms
  | [], _, h => h
  | e :: es, ms, h => by
    simp only [RepM] at h ⊢
    obtain ⟨m, r, us, rfl, h1, h2, h3, h4, h5, h6⟩ := h
    exact ⟨m, r, us, rfl, RepL.keep hk e us h1, h2, h3, h4, h5, RepM.keep hk ka va kz es r h6⟩
end
theorem RepL.len {im : Nat → Prop} {w : World} : ∀ {ps : List PV} {us : List Value}, RepL im w ps us → us.length = ps.length
  | [], us, h => by simp only [RepL] at h; subst h; rfl
  | p :: ps, us, h => by
    simp only [RepL] at h
    obtain ⟨x, xs, rfl, _, h2⟩ := h
    simp [RepL.len h2]
theorem RepL.get {im : Nat → Prop} {w : World} : ∀ {ps : List PV} {us : List Value}, RepL im w ps us → ∀ {i : Nat} {p : PV}, ps[i]? = some p → ∃ u, us[i]? = some u ∧ RepP im w p u
  | [], _, _, i, p, hp => by simp at hp
  | q :: ps, us, h, i, p, hp => by
    simp only [RepL] at h
    obtain ⟨x, xs, rfl, h1, h2⟩ := h
    cases i with
    | zero => simp at hp; subst hp; exact ⟨x, rfl, h1⟩
    | succ i => simpa using RepL.get h2 (i := i) (by simpa using hp)
theorem RepL.drop {im : Nat → Prop} {w : World} : ∀ {ps : List PV} {us : List Value} (i : Nat), RepL im w ps us → RepL im w (ps.drop i) (us.drop i)
  | ps, us, 0, h => by simpa using h
  | [], us, i + 1, h => by simp only [RepL] at h; subst h; simp [RepL]
  | p :: ps, us, i + 1, h => by
    simp only [RepL] at h
    obtain ⟨x, xs, rfl, _, h2⟩ := h
    simpa using RepL.drop i h2
theorem RepL.take {im : Nat → Prop} {w : World} : ∀ {ps : List PV} {us : List Value} (i : Nat), RepL im w ps us → RepL im w (ps.take i) (us.take i)
  | ps, us, 0, h => by simp [RepL]
  | [], us, i + 1, h => by simp only [RepL] at h; subst h; simp [RepL]
  | p :: ps, us, i + 1, h => by
    simp only [RepL] at h
    obtain ⟨x, xs, rfl, h1, h2⟩ := h
    simp only [List.take_succ_cons, RepL]
    exact ⟨x, _, rfl, h1, RepL.take i h2⟩
theorem RepL.append {im : Nat → Prop} {w : World} : ∀ {ps qs : List PV} {us vs : List Value}, RepL im w ps us → RepL im w qs vs → RepL im w (ps ++ qs) (us ++ vs)
  | [], qs, us, vs, h, k => by simp only [RepL] at h; subst h; simpa using k
  | p :: ps, qs, us, vs, h, k => by
    simp only [RepL] at h
    obtain ⟨x, xs, rfl, h1, h2⟩ := h
    simp only [List.cons_append, RepL]
    exact ⟨x, _, rfl, h1, RepL.append h2 k⟩
theorem RepE.get {im : Nat → Prop} {w : World} {k : Nat} : ∀ {es : List (List PV)} {b o : Nat}, RepE im w k es b o → ∀ {i : Nat} {e : List PV}, es[i]? = some e →
    ∃ us : List Value, us.length = k ∧ (∀ u ∈ us, u.oneCell' = true) ∧ w.rangeAt b (o + i * k) us ∧ RepL im w e us
  | [], _, _, _, i, e, he => by simp at he
  | x :: es, b, o, h, i, e, he => by
    simp only [RepE] at h
    cases i with
    | zero => simp at he; subst he; simpa using h.1
    | succ i =>
      have := RepE.get h.2 (i := i) (by simpa using he)
      rwa [show o + k + i * k = o + (i + 1) * k by rw [Nat.add_mul]; omega] at this
theorem RepE.drop {im : Nat → Prop} {w : World} {k : Nat} : ∀ {es : List (List PV)} {b o : Nat} (i : Nat), RepE im w k es b o → RepE im w k (es.drop i) b (o + i * k)
  | es, b, o, 0, h => by simpa using h
  | [], b, o, i + 1, h => by simp [RepE]
  | x :: es, b, o, i + 1, h => by
    simp only [RepE] at h
    have := RepE.drop i h.2
    rwa [show o + k + i * k = o + (i + 1) * k by rw [Nat.add_mul]; omega] at this
theorem RepE.take {im : Nat → Prop} {w : World} {k : Nat} : ∀ {es : List (List PV)} {b o : Nat} (i : Nat), RepE im w k es b o → RepE im w k (es.take i) b o
  | es, b, o, 0, h => by simp [RepE]
  | [], b, o, i + 1, h => by simp [RepE]
  | x :: es, b, o, i + 1, h => by
    simp only [RepE] at h
    simp only [List.take_succ_cons, RepE]
    exact ⟨h.1, RepE.take i h.2⟩
theorem RepE.flat {im : Nat → Prop} {w : World} {k : Nat} : ∀ {es : List (List PV)} {b o : Nat}, RepE im w k es b o →
    ∃ us : List Value, us.length = es.length * k ∧ (∀ u ∈ us, u.oneCell' = true) ∧ w.rangeAt b o us ∧ RepL im w es.flatten us
  | [], b, o, _ => ⟨[], by simp, by simp, fun j v hv => by simp at hv, by simp [RepL]⟩
  | e :: es, b, o, h => by
    simp only [RepE] at h
    obtain ⟨⟨us, hl, ho, hr, he⟩, h2⟩ := h
    obtain ⟨vs, hl2, ho2, hr2, he2⟩ := RepE.flat h2
    refine ⟨us ++ vs, by simp [hl, hl2, Nat.add_mul]; omega, fun u hu => (List.mem_append.1 hu).elim (ho u) (ho2 u), fun j v hv => ?_, by simpa using RepL.append he he2⟩
    rw [List.getElem?_append] at hv
    split at hv
    · exact hr j v hv
    · have := hr2 (j - us.length) v hv
      rwa [show o + k + (j - us.length) = o + j by omega] at this
theorem RepE.of_flat {im : Nat → Prop} {w : World} {k : Nat} : ∀ {es : List (List PV)} {b o : Nat} {us : List Value}, (∀ e ∈ es, e.length = k) → w.rangeAt b o us → (∀ u ∈ us, u.oneCell' = true) → RepL im w es.flatten us → RepE im w k es b o
  | [], _, _, _, _, _, _, _ => trivial
  | e :: es, b, o, us, hk, hr, ho, h => by
    have hek := hk e (by simp)
    simp only [RepE]
    have hlen := h.len
    refine ⟨⟨us.take k, ?_, fun u hu => ho u (List.mem_of_mem_take hu), fun j v hv => ?_, ?_⟩, RepE.of_flat (us := us.drop k) (fun e he => hk e (by simp [he])) (fun j v hv => ?_) (fun u hu => ho u (List.mem_of_mem_drop hu)) ?_⟩
    · simp [hlen, hek]
    · rw [List.getElem?_take] at hv
      split at hv
      · exact hr j v hv
      · cases hv
    · have := RepL.take k h
      simpa [List.take_append, hek] using this
    · rw [List.getElem?_drop] at hv
      have := hr (k + j) v hv
      rwa [← Nat.add_assoc] at this
    · have := RepL.drop k h
      simpa [List.drop_append, hek] using this
inductive CV where
  | p (v : PV)
  | ptr (k off : Nat)
  | row (t : Nat)
  | rptr (t k : Nat) (i : Int) (off : Nat)
  | aptr (k off len : Nat) (i : Int)
  | clo (f : Fn) (ks : List Nat)
  | mp (k : Nat)
  | und
  | unk
  deriving Inhabited
inductive TV where
  | c (v : CV)
  | agg (cs : List CV)
  deriving Inhabited
inductive ObV where
  | map (ka va : Bool) (kz : List PV) (es : List (List PV))
  | iter (ka va : Bool) (kz : List PV) (left cur : List (List PV))
  deriving Inhabited
inductive Cont where
  | none
  | dead
  | t (v : TV)
  | box (ty : TypeId) (cs : List CV)
  | row (e : TypeId) (k : Nat) (es : List (List PV))
  | obj (o : ObV)
  deriving Inhabited
def kT (d : Nat) : Nat := 3 * d
def kB (d : Nat) : Nat := 3 * d + 1
def kR (d : Nat) : Nat := 3 * d + 2
def CV.boxes : CV → List Nat
  | .ptr k _ => [k]
  | .aptr k _ _ _ => [k]
  | .clo _ ks => ks
  | .mp k => [k]
  | _ => []
def CV.rows : CV → List Nat
  | .row t => [t]
  | .rptr t _ _ _ => [t]
  | _ => []
def TV.boxes : TV → List Nat
  | .c v => v.boxes
  | .agg cs => cs.flatMap CV.boxes
def TV.rows : TV → List Nat
  | .c v => v.rows
  | .agg cs => cs.flatMap CV.rows
def Cont.boxes : Cont → List Nat
  | .t v => v.boxes
  | .box _ cs => cs.flatMap CV.boxes
  | _ => []
def Cont.rows : Cont → List Nat
  | .t v => v.rows
  | .box _ cs => cs.flatMap CV.rows
  | _ => []
abbrev Lk := Nat → Cont
def ovr : List (Nat × Cont) → Lk → Lk
  | [], L, i => L i
  | (j, c) :: r, L, i => bif Nat.beq j i then c else ovr r L i
theorem ovr_one (j : Nat) (c : Cont) (L : Lk) (i : Nat) : ovr [(j, c)] L i = if j = i then c else L i := by
  simp only [ovr]
  cases h : Nat.beq j i with
  | true => simp [Nat.eq_of_beq_eq_true h]
  | false => have := Nat.ne_of_beq_eq_false h; simp [this]
theorem ovr_append (α β : List (Nat × Cont)) (L : Lk) : ovr (α ++ β) L = ovr α (ovr β L) := by
  induction α with
  | nil => rfl
  | cons x α ih => funext i; obtain ⟨j, c⟩ := x; simp only [List.cons_append, ovr, ih]
theorem ovr_cons (x : Nat × Cont) (α : List (Nat × Cont)) (L : Lk) : ovr (x :: α) L = ovr [x] (ovr α L) := ovr_append [x] α L
def isBox (L : Lk) (k : Nat) : Prop := (∃ ty cs, L (kB k) = .box ty cs) ∨ ∃ o, L (kB k) = .obj o
def isRow (L : Lk) (t : Nat) : Prop := ∃ e k es, L (kR t) = .row e k es
section
variable (bm : Nat → Nat) (rm : Nat → Value) (im : Nat → Prop) (w : World)
def RepV : CV → Value → Prop
  | .p v, u => RepP im w v u
  | .ptr k off, u => u = .pointer (some ⟨bm k, off, none⟩)
  | .row t, u => u = rm t ∧ ∃ A n c, u = .slice A n c
  | .rptr t k i off, u => ∃ b, (rm t).ownBlock = some b ∧ 0 ≤ i ∧ u = .pointer (some ⟨b, i.toNat * k + off, none⟩)
  | .aptr k off len i, u => 0 ≤ i ∧ i < len ∧ u = .pointer (some ⟨bm k, off + i.toNat, none⟩)
  | .clo f ks, u => u = .func f #[] (ks.map fun k => Value.pointer (some ⟨bm k, 0, none⟩)).toArray
  | .mp k, u => u = .map (some (bm k))
  | .und, u => u = undef
  | .unk, _ => True
def RepVs : List CV → List Value → Prop
  | [], us => us = []
  | p :: ps, us => ∃ x xs, us = x :: xs ∧ RepV bm rm im w p x ∧ RepVs ps xs
def RepT : TV → Value → Prop
  | .c v, u => RepV bm rm im w v u
  | .agg cs, u => ∃ us : List Value, u = .agg us.toArray ∧ RepVs bm rm im w cs us
end
section
variable {bm bm' : Nat → Nat} {rm rm' : Nat → Value} {im im' : Nat → Prop} {w w' : World}
theorem RepV.keep {v : CV} {u : Value} (hk : Keeps im w im' w') (hb : ∀ k ∈ v.boxes, bm' k = bm k) (hr : ∀ t ∈ v.rows, rm' t = rm t) (h : RepV bm rm im w v u) : RepV bm' rm' im' w' v u := by
  cases v with
  | p v => exact RepP.keep hk v u h
  | ptr k off => simp only [RepV] at h ⊢; rw [h, hb k (by simp [CV.boxes])]
  | row t => simp only [RepV] at h ⊢; rw [hr t (by simp [CV.rows])]; exact h
  | rptr t k i off => simp only [RepV] at h ⊢; rw [hr t (by simp [CV.rows])]; exact h
  | aptr k off len i => simp only [RepV] at h ⊢; rw [hb k (by simp [CV.boxes])]; exact h
  | clo f ks =>
    simp only [RepV] at h ⊢
    have : (ks.map fun k => Value.pointer (some ⟨bm' k, 0, none⟩)) = ks.map fun k => Value.pointer (some ⟨bm k, 0, none⟩) :=
      List.map_congr_left fun k hk => by rw [hb k (by simpa [CV.boxes] using hk)]
    rw [this]; exact h
  | mp k => simp only [RepV] at h ⊢; rw [h, hb k (by simp [CV.boxes])]
  | und => exact h
  | unk => trivial
theorem RepVs.keep (hk : Keeps im w im' w') : ∀ {ps : List CV} {us : List Value}, (∀ k ∈ ps.flatMap CV.boxes, bm' k = bm k) → (∀ t ∈ ps.flatMap CV.rows, rm' t = rm t) →
    RepVs bm rm im w ps us → RepVs bm' rm' im' w' ps us
  | [], _, _, _, h => h
  | p :: ps, us, hb, hr, h => by
    simp only [RepVs] at h ⊢
    obtain ⟨x, xs, rfl, h1, h2⟩ := h
    simp only [List.flatMap_cons, List.mem_append] at hb hr
    exact ⟨x, xs, rfl, h1.keep hk (fun k h => hb k (.inl h)) (fun t h => hr t (.inl h)), RepVs.keep hk (fun k h => hb k (.inr h)) (fun t h => hr t (.inr h)) h2⟩
theorem RepT.keep {v : TV} {u : Value} (hk : Keeps im w im' w') (hb : ∀ k ∈ v.boxes, bm' k = bm k) (hr : ∀ t ∈ v.rows, rm' t = rm t) (h : RepT bm rm im w v u) : RepT bm' rm' im' w' v u := by
  cases v with
  | c v => exact RepV.keep hk hb hr h
  | agg cs =>
    obtain ⟨us, rfl, h⟩ := h
    exact ⟨us, rfl, h.keep hk hb hr⟩
theorem RepVs.len : ∀ {ps : List CV} {us : List Value}, RepVs bm rm im w ps us → us.length = ps.length
  | [], us, h => by simp only [RepVs] at h; subst h; rfl
  | p :: ps, us, h => by
    simp only [RepVs] at h
    obtain ⟨x, xs, rfl, _, h2⟩ := h
    simp [RepVs.len h2]
theorem RepVs.get : ∀ {ps : List CV} {us : List Value}, RepVs bm rm im w ps us → ∀ {i : Nat} {p : CV}, ps[i]? = some p → ∃ u, us[i]? = some u ∧ RepV bm rm im w p u
  | [], _, _, i, p, hp => by simp at hp
  | q :: ps, us, h, i, p, hp => by
    simp only [RepVs] at h
    obtain ⟨x, xs, rfl, h1, h2⟩ := h
    cases i with
    | zero => simp at hp; subst hp; exact ⟨x, rfl, h1⟩
    | succ i => simpa using RepVs.get h2 (i := i) (by simpa using hp)
theorem RepVs.drop : ∀ {ps : List CV} {us : List Value} (i : Nat), RepVs bm rm im w ps us → RepVs bm rm im w (ps.drop i) (us.drop i)
  | ps, us, 0, h => by simpa using h
  | [], us, i + 1, h => by simp only [RepVs] at h; subst h; simp [RepVs]
  | p :: ps, us, i + 1, h => by
    simp only [RepVs] at h
    obtain ⟨x, xs, rfl, _, h2⟩ := h
    simpa using RepVs.drop i h2
theorem RepVs.take : ∀ {ps : List CV} {us : List Value} (i : Nat), RepVs bm rm im w ps us → RepVs bm rm im w (ps.take i) (us.take i)
  | ps, us, 0, h => by simp [RepVs]
  | [], us, i + 1, h => by simp only [RepVs] at h; subst h; simp [RepVs]
  | p :: ps, us, i + 1, h => by
    simp only [RepVs] at h
    obtain ⟨x, xs, rfl, h1, h2⟩ := h
    simp only [List.take_succ_cons, RepVs]
    exact ⟨x, _, rfl, h1, RepVs.take i h2⟩
theorem RepVs.append : ∀ {ps qs : List CV} {us vs : List Value}, RepVs bm rm im w ps us → RepVs bm rm im w qs vs → RepVs bm rm im w (ps ++ qs) (us ++ vs)
  | [], qs, us, vs, h, k => by simp only [RepVs] at h; subst h; simpa using k
  | p :: ps, qs, us, vs, h, k => by
    simp only [RepVs] at h
    obtain ⟨x, xs, rfl, h1, h2⟩ := h
    simp only [List.cons_append, RepVs]
    exact ⟨x, _, rfl, h1, RepVs.append h2 k⟩
theorem RepVs.pure : ∀ {ps : List PV} {us : List Value}, RepL im w ps us → RepVs bm rm im w (ps.map .p) us
  | [], us, h => h
  | p :: ps, us, h => by
    simp only [RepL] at h
    obtain ⟨x, xs, rfl, h1, h2⟩ := h
    simp only [List.map_cons, RepVs, RepV]
    exact ⟨x, xs, rfl, h1, RepVs.pure h2⟩
end
structure NN where
  lo : Nat
  hi : Nat
  own : List FuncId
def okS (N : NN) (d : Nat) : Bool := Nat.ble N.lo d && Nat.blt d N.hi
theorem okS_lt {N : NN} {d : Nat} (h : okS N d = true) : d < N.hi := by
  simp only [okS, Bool.and_eq_true, Nat.blt_eq] at h; exact h.2
theorem okS_le {N : NN} {d : Nat} (h : okS N d = true) : N.lo ≤ d := by
  simp only [okS, Bool.and_eq_true, Nat.ble_eq] at h; exact h.1
def Obj.machB : Option Obj → Bool
  | some (.loop _) => true
  | some (.deferred _) => true
  | _ => false
def Plain (w : World) (b : Nat) : Prop := b < w.heap.size ∧ Obj.machB w.heap[b]? = false
theorem Plain.keep {w w' : World} {b : Nat} (h : Plain w b) (hs : w.heap.size ≤ w'.heap.size) (hb : w'.heap[b]? = w.heap[b]?) : Plain w' b :=
  ⟨Nat.lt_of_lt_of_le h.1 hs, by rw [hb]; exact h.2⟩
theorem plain_of {w : World} {b : Nat} {O : Obj} (h : w.heap[b]? = some O) (hn : Obj.machB (some O) = false) : Plain w b :=
  ⟨(Array.getElem?_eq_some_iff.1 h).1, by rw [h]; exact hn⟩
def RepO (im : Nat → Prop) (w : World) : ObV → Obj → Prop
  | .map ka va kz es, O => ∃ ms clock, O = .map ms clock ∧ MapOK ms.toList clock ∧ RepM im w ka va kz es ms.toList
  | .iter ka va kz left cur, O => (O = .mapIter none 0 #[] 0 ∧ left = [] ∧ cur = []) ∨ ∃ b ms clock seen, O = .mapIter (some b) clock seen clock ∧ im b ∧ w.heap[b]? = some (.map ms clock) ∧ MapOK ms.toList clock ∧
      RepM im w ka va kz left (ms.filter fun e => !seen.contains e.born).toList ∧ (cur = [] ∨ ∃ m, m ∈ ms.toList ∧ seen.back? = some m.born ∧ RepM im w ka va kz cur [m])
theorem RepO.keep {im im' : Nat → Prop} {w w' : World} (hk : Keeps im w im' w') {o : ObV} {O : Obj} (h : RepO im w o O) : RepO im' w' o O := by
  cases o with
  | map ka va kz es =>
    obtain ⟨ms, clock, rfl, h1, h2⟩ := h
    exact ⟨ms, clock, rfl, h1, RepM.keep hk _ _ _ _ _ h2⟩
  | iter ka va kz left cur =>
    rcases h with ⟨rfl, rfl, rfl⟩ | ⟨b, ms, clock, seen, rfl, h1, h2, h3, h4, h5⟩
    · exact .inl ⟨rfl, rfl, rfl⟩
    · refine .inr ⟨b, ms, clock, seen, rfl, (hk b h1).1, (hk b h1).2.trans h2, h3, RepM.keep hk _ _ _ _ _ h4, ?_⟩
      rcases h5 with h5 | ⟨m, hm, hs, hr⟩
      · exact .inl h5
      · exact .inr ⟨m, hm, hs, RepM.keep hk _ _ _ _ _ hr⟩
structure Env where
  im1 : Nat → Prop
  w1 : World
  tm : Array Value
  mks : Nat → Prop
  n1 : Nat
def mkDv (D : Nat) : Deferred := { target := .collected D, args := #[] }
structure AuxAt (n0 : Nat) (D : Env) (N : NN) (a : Act) (im : Nat → Prop) (w : World) : Prop where
  marks : ∃ Ds : List Nat, a.defers = Ds.map mkDv ∧ Ds.Nodup ∧ ∀ b ∈ Ds, (n0 ≤ b ∧ D.n1 ≤ b) ∧ w.heap[b]? = some (.deferred (some []))
  kept : Keeps D.im1 D.w1 im w
  pins : ∀ d, d < N.lo → a.tmps.getD d undef = D.tm.getD d undef
  mks : ∀ b : Nat, D.mks b → Obj.machB w.heap[b]? = true ∧ w.heap[b]? = D.w1.heap[b]?
  top : D.n1 ≤ w.heap.size
theorem AuxAt.keep {n0 : Nat} {D : Env} {N : NN} {a : Act} {im im' : Nat → Prop} {w w' : World} (h : AuxAt n0 D N a im w) (hs : w.heap.size ≤ w'.heap.size) (hk : Keeps im w im' w') (hm : ∀ b : Nat, Obj.machB w.heap[b]? = true → w'.heap[b]? = w.heap[b]?) : AuxAt n0 D N a im' w' := by
  obtain ⟨⟨Ds, h1, h2, h3⟩, h4, h5, h6, h7⟩ := h
  exact ⟨⟨Ds, h1, h2, fun b hb => ⟨(h3 b hb).1, (hm b (by rw [(h3 b hb).2]; rfl)).trans (h3 b hb).2⟩⟩, h4.trans hk, h5, fun b hb => by rw [hm b (h6 b hb).1]; exact h6 b hb, Nat.le_trans h7 hs⟩
theorem AuxAt.put {n0 : Nat} {D : Env} {N : NN} {a : Act} {im : Nat → Prop} {w : World} (h : AuxAt n0 D N a im w) {d : Nat} {u : Value} (hd : okS N d = true) : AuxAt n0 D N (a.put (some d) u) im w := by
  obtain ⟨h1, h4, h5, h6, h7⟩ := h
  refine ⟨h1, h4, fun d' hd' => ?_, h6, h7⟩
  rw [← h5 d' hd']
  have := okS_le hd
  simp [Act.put, Array.getElem?_setIfInBounds_ne (show d ≠ d' by omega)]
def imOf (n0 : Nat) (im0 : Nat → Prop) (bm : Nat → Nat) (rm : Nat → Value) (L : Lk) (w : World) (b : Nat) : Prop :=
  Plain w b ∧ (im0 b ∨ n0 ≤ b) ∧ (∀ k, isBox L k → bm k ≠ b) ∧ (∀ t, isRow L t → (rm t).ownBlock ≠ some b)
structure RelAt (w0 : World) (im0 : Nat → Prop) (N : NN) (D : Env) (bm : Nat → Nat) (rm : Nat → Value) (L : Lk) (a : Act) (w : World) : Prop where
  base : Below w0.heap.size w0 w
  size : a.tmps.size = N.hi
  defs : AuxAt w0.heap.size D N a (imOf w0.heap.size im0 bm rm L w) w
  slots : ∀ d v, L (kT d) = .t v → RepT bm rm (imOf w0.heap.size im0 bm rm L w) w v (a.tmps.getD d undef)
  boxes : ∀ k ty cs, L (kB k) = .box ty cs → ∃ us : List Value, w.heap[bm k]? = some (.cells us.toArray ty (0, 0)) ∧ RepVs bm rm (imOf w0.heap.size im0 bm rm L w) w cs us ∧ w0.heap.size ≤ bm k
  objs : ∀ k o, L (kB k) = .obj o → ∃ O, w.heap[bm k]? = some O ∧ RepO (imOf w0.heap.size im0 bm rm L w) w o O ∧ w0.heap.size ≤ bm k
  rows : ∀ t e k es, L (kR t) = .row e k es → ∃ xs, w.ownsRow w0.heap.size e k (rm t) es.length xs ∧ RepL (imOf w0.heap.size im0 bm rm L w) w es.flatten xs ∧ (∀ x ∈ es, x.length = k) ∧ ∀ u ∈ xs, u.oneCell' = true
  bb : ∀ k k', isBox L k → isBox L k' → bm k = bm k' → k = k'
  br : ∀ k t, isBox L k → isRow L t → (rm t).ownBlock ≠ some (bm k)
  rr : ∀ t t' g, isRow L t → isRow L t' → (rm t).ownBlock = some g → (rm t').ownBlock = some g → t = t'
  wfb : ∀ i, ∀ k ∈ (L i).boxes, L (kB k) ≠ .none
  wfr : ∀ i, ∀ t ∈ (L i).rows, L (kR t) ≠ .none
def Rel (w0 : World) (im0 : Nat → Prop) (N : NN) (D : Env) (L : Lk) (a : Act) (w : World) : Prop := ∃ bm rm, RelAt w0 im0 N D bm rm L a w
section
variable {w0 : World} {im0 : Nat → Prop} {N : NN} {D : Env} {bm : Nat → Nat} {rm : Nat → Value} {L : Lk} {a : Act} {w : World}
theorem imOf_congr {L' : Lk} {n0 : Nat} (hb : ∀ k, L' (kB k) = L (kB k)) (hr : ∀ t, L' (kR t) = L (kR t)) : imOf n0 im0 bm rm L' w = imOf n0 im0 bm rm L w := by
  funext b
  simp only [imOf, isBox, isRow, hb, hr]
theorem kT_ne_kB (a b : Nat) : kT a ≠ kB b := by simp only [kT, kB]; omega
theorem kT_ne_kR (a b : Nat) : kT a ≠ kR b := by simp only [kT, kR]; omega
theorem kB_ne_kR (a b : Nat) : kB a ≠ kR b := by simp only [kB, kR]; omega
theorem kT_inj {a b : Nat} (h : kT a = kT b) : a = b := by simp only [kT] at h; omega
theorem kB_inj {a b : Nat} (h : kB a = kB b) : a = b := by simp only [kB] at h; omega
theorem kR_inj {a b : Nat} (h : kR a = kR b) : a = b := by simp only [kR] at h; omega
theorem mach_lt {b : Nat} (h : Obj.machB w.heap[b]? = true) : b < w.heap.size := by
  by_cases hl : b < w.heap.size
  · exact hl
  · simp [Array.getElem?_eq_none (Nat.le_of_not_lt hl), Obj.machB] at h
theorem RelAt.put (h : RelAt w0 im0 N D bm rm L a w) {d : Nat} {u : Value} {v : TV} (hd : okS N d = true) (hv : RepT bm rm (imOf w0.heap.size im0 bm rm L w) w v u)
    (hb : ∀ k ∈ v.boxes, L (kB k) ≠ .none) (hr : ∀ t ∈ v.rows, L (kR t) ≠ .none) : RelAt w0 im0 N D bm rm (ovr [(kT d, .t v)] L) (a.put (some d) u) w := by
  have eB : ∀ k, ovr [(kT d, .t v)] L (kB k) = L (kB k) := fun k => by rw [ovr_one, if_neg (kT_ne_kB d k)]
  have eR : ∀ k, ovr [(kT d, .t v)] L (kR k) = L (kR k) := fun k => by rw [ovr_one, if_neg (kT_ne_kR d k)]
  have eI := imOf_congr (im0 := im0) (bm := bm) (rm := rm) (w := w) (n0 := w0.heap.size) eB eR
  have iB : ∀ k, isBox (ovr [(kT d, .t v)] L) k = isBox L k := fun k => by simp only [isBox, eB]
  have iR : ∀ k, isRow (ovr [(kT d, .t v)] L) k = isRow L k := fun k => by simp only [isRow, eR]
  refine ⟨h.base, by simp [Act.put, h.size], by rw [eI]; exact h.defs.put hd, fun d' v' hv' => ?_, fun k ty cs hk => ?_, fun k o hk => by rw [eI]; rw [eB] at hk; exact h.objs k o hk, fun t e k es ht => ?_, fun k k' => by rw [iB, iB]; exact h.bb k k', fun k t => by rw [iB, iR]; exact h.br k t, fun t t' g => by rw [iR, iR]; exact h.rr t t' g, fun i k hk => ?_, fun i t ht => ?_⟩
  · rw [eI]
    rw [ovr_one] at hv'
    by_cases hdd : d = d'
    · subst hdd
      rw [if_pos rfl] at hv'
      cases hv'
      have : (a.put (some d) u).tmps.getD d undef = u := by simp [Act.put, h.size, okS_lt hd]
      rw [this]; exact hv
    · rw [if_neg (fun e => hdd (kT_inj e))] at hv'
      have : (a.put (some d) u).tmps.getD d' undef = a.tmps.getD d' undef := by simp [Act.put, Array.getElem?_setIfInBounds_ne hdd]
      rw [this]; exact h.slots d' v' hv'
  · rw [eI]; rw [eB] at hk; exact h.boxes k ty cs hk
  · rw [eI]; rw [eR] at ht; exact h.rows t e k es ht
  · rw [eB]
    rw [ovr_one] at hk
    split at hk
    · exact hb k hk
    · exact h.wfb i k hk
  · rw [eR]
    rw [ovr_one] at ht
    split at ht
    · exact hr t ht
    · exact h.wfr i t ht
theorem RelAt.see (h : RelAt w0 im0 N D bm rm L a w) {d : Nat} {u : Value} {v : TV} (hu : a.tmps.getD d undef = u) (hv : RepT bm rm (imOf w0.heap.size im0 bm rm L w) w v u)
    (hb : ∀ k ∈ v.boxes, L (kB k) ≠ .none) (hr : ∀ t ∈ v.rows, L (kR t) ≠ .none) : RelAt w0 im0 N D bm rm (ovr [(kT d, .t v)] L) a w := by
  have eB : ∀ k, ovr [(kT d, .t v)] L (kB k) = L (kB k) := fun k => by rw [ovr_one, if_neg (kT_ne_kB d k)]
  have eR : ∀ k, ovr [(kT d, .t v)] L (kR k) = L (kR k) := fun k => by rw [ovr_one, if_neg (kT_ne_kR d k)]
  have eI := imOf_congr (im0 := im0) (bm := bm) (rm := rm) (w := w) (n0 := w0.heap.size) eB eR
  have iB : ∀ k, isBox (ovr [(kT d, .t v)] L) k = isBox L k := fun k => by simp only [isBox, eB]
  have iR : ∀ k, isRow (ovr [(kT d, .t v)] L) k = isRow L k := fun k => by simp only [isRow, eR]
  refine ⟨h.base, h.size, by rw [eI]; exact h.defs, fun d' v' hv' => ?_, fun k ty cs hk => ?_, fun k o hk => by rw [eI]; rw [eB] at hk; exact h.objs k o hk, fun t e k es ht => ?_, fun k k' => by rw [iB, iB]; exact h.bb k k', fun k t => by rw [iB, iR]; exact h.br k t, fun t t' g => by rw [iR, iR]; exact h.rr t t' g, fun i k hk => ?_, fun i t ht => ?_⟩
  · rw [eI]
    rw [ovr_one] at hv'
    by_cases hdd : d = d'
    · subst hdd
      rw [if_pos rfl] at hv'
      cases hv'
      rw [hu]; exact hv
    · rw [if_neg (fun e => hdd (kT_inj e))] at hv'
      exact h.slots d' v' hv'
  · rw [eI]; rw [eB] at hk; exact h.boxes k ty cs hk
  · rw [eI]; rw [eR] at ht; exact h.rows t e k es ht
  · rw [eB]
    rw [ovr_one] at hk
    split at hk
    · exact hb k hk
    · exact h.wfb i k hk
  · rw [eR]
    rw [ovr_one] at ht
    split at ht
    · exact hr t ht
    · exact h.wfr i t ht
theorem RelAt.boxlt (h : RelAt w0 im0 N D bm rm L a w) {k : Nat} (hk : isBox L k) : bm k < w.heap.size := by
  rcases hk with ⟨ty, cs, hk⟩ | ⟨o, hk⟩
  · obtain ⟨us, hu, _⟩ := h.boxes k ty cs hk
    exact (Array.getElem?_eq_some_iff.1 hu).1
  · obtain ⟨O, hu, _⟩ := h.objs k o hk
    exact (Array.getElem?_eq_some_iff.1 hu).1
theorem RelAt.boxge (h : RelAt w0 im0 N D bm rm L a w) {k : Nat} (hk : isBox L k) : w0.heap.size ≤ bm k := by
  rcases hk with ⟨ty, cs, hk⟩ | ⟨o, hk⟩
  · obtain ⟨us, _, _, hn⟩ := h.boxes k ty cs hk
    exact hn
  · obtain ⟨O, _, _, hn⟩ := h.objs k o hk
    exact hn
theorem RelAt.rowlt (h : RelAt w0 im0 N D bm rm L a w) {t g : Nat} (ht : isRow L t) (hg : (rm t).ownBlock = some g) : g < w.heap.size := by
  obtain ⟨e, k, es, ht⟩ := ht
  obtain ⟨xs, hx, _⟩ := h.rows t e k es ht
  exact (hx.lt g hg).2
theorem RelAt.grow (h : RelAt w0 im0 N D bm rm L a w) {w' : World} (hw : Below w.heap.size w w') : RelAt w0 im0 N D bm rm L a w' := by
  have hk : Keeps (imOf w0.heap.size im0 bm rm L w) w (imOf w0.heap.size im0 bm rm L w') w' :=
    fun b hb => ⟨⟨hb.1.keep hw.size (hw.block b hb.1.1), hb.2⟩, hw.block b hb.1.1⟩
  refine ⟨h.base.trans (hw.mono h.base.size), h.size, h.defs.keep (by first | exact Nat.le_refl _ | exact hg.size | exact hbel.size | exact hw.size | exact hs | (simp; done) | omega) hk (fun b hb => hw.block b (mach_lt hb)), fun d v hv => (h.slots d v hv).keep hk (fun _ _ => rfl) (fun _ _ => rfl), fun k ty cs hc => ?_, fun k o hc => ?_, fun t e k es ht => ?_, h.bb, h.br, h.rr, h.wfb, h.wfr⟩
  · obtain ⟨us, hu, hr, hn⟩ := h.boxes k ty cs hc
    exact ⟨us, by rw [hw.block _ (h.boxlt (.inl ⟨ty, cs, hc⟩))]; exact hu, hr.keep hk (fun _ _ => rfl) (fun _ _ => rfl), hn⟩
  · obtain ⟨O, hu, hr, hn⟩ := h.objs k o hc
    exact ⟨O, by rw [hw.block _ (h.boxlt (.inr ⟨o, hc⟩))]; exact hu, hr.keep hk, hn⟩
  · obtain ⟨xs, hx, hl, hr⟩ := h.rows t e k es ht
    refine ⟨xs, ?_, hl.keep hk, hr⟩
    exact hx.kept (row := none) ⟨hw.os, hw.tape, hw.output, hw.size, fun b hb _ => hw.block b hb⟩ (by cases (rm t).ownBlock <;> simp)
end
section
variable {w0 : World} {im0 : Nat → Prop} {N : NN} {D : Env} {bm : Nat → Nat} {rm : Nat → Value} {L : Lk} {a : Act} {w : World}
def updN {β : Type} (f : Nat → β) (d : Nat) (x : β) (k : Nat) : β := if k = d then x else f k
theorem updN_ne {β : Type} {f : Nat → β} {d : Nat} {x : β} {k : Nat} (h : k ≠ d) : updN f d x k = f k := by simp [updN, h]
theorem updN_same {β : Type} (f : Nat → β) (d : Nat) (x : β) : updN f d x d = x := by simp [updN]
theorem ovrB_T (d k : Nat) (c : Cont) (L : Lk) : ovr [(kB d, c)] L (kT k) = L (kT k) := by rw [ovr_one, if_neg (Ne.symm (kT_ne_kB k d))]
theorem ovrB_R (d k : Nat) (c : Cont) (L : Lk) : ovr [(kB d, c)] L (kR k) = L (kR k) := by rw [ovr_one, if_neg (kB_ne_kR d k)]
theorem ovrB_B (d k : Nat) (c : Cont) (L : Lk) : ovr [(kB d, c)] L (kB k) = if d = k then c else L (kB k) := by
  rw [ovr_one]; by_cases h : d = k
  · simp [h]
  · rw [if_neg (fun e => h (kB_inj e)), if_neg h]
theorem ovrR_T (d k : Nat) (c : Cont) (L : Lk) : ovr [(kR d, c)] L (kT k) = L (kT k) := by rw [ovr_one, if_neg (Ne.symm (kT_ne_kR k d))]
theorem ovrR_B (d k : Nat) (c : Cont) (L : Lk) : ovr [(kR d, c)] L (kB k) = L (kB k) := by rw [ovr_one, if_neg (Ne.symm (kB_ne_kR k d))]
theorem ovrR_R (d k : Nat) (c : Cont) (L : Lk) : ovr [(kR d, c)] L (kR k) = if d = k then c else L (kR k) := by
  rw [ovr_one]; by_cases h : d = k
  · simp [h]
  · rw [if_neg (fun e => h (kR_inj e)), if_neg h]
theorem objs_not_mach {im : Nat → Prop} {o : ObV} {O : Obj} (h : RepO im w o O) : Obj.machB (some O) = false := by
  cases o with
  | map ka va kz es => obtain ⟨ms, cl, rfl, _⟩ := h; rfl
  | iter ka va kz l cur =>
    rcases h with ⟨rfl, _⟩ | ⟨b, ms, cl, sn, rfl, _⟩ <;> rfl
theorem owns_not_mach {n0 : Nat} {e : TypeId} {k n : Nat} {v : Value} {xs : List Value} {g : Nat} (h : w.ownsRow n0 e k v n xs) (hg : v.ownBlock = some g) : Obj.machB w.heap[g]? = false := by
  rcases h.2 with ⟨rfl, _⟩ | ⟨g', cap, cur, rfl, _, hgg, _⟩
  · simp [Value.ownBlock] at hg
  · simp only [Value.ownBlock, Option.some.injEq] at hg
    subst hg
    rw [hgg]; rfl
theorem RelAt.newBox (h : RelAt w0 im0 N D bm rm L a w) {d : Nat} {ty : TypeId} {cs : List CV} {us : List Value} (hn : L (kB d) = .none)
    (hv : RepVs bm rm (imOf w0.heap.size im0 bm rm L w) w cs us) (hb : ∀ k ∈ cs.flatMap CV.boxes, L (kB k) ≠ .none) (hr : ∀ t ∈ cs.flatMap CV.rows, L (kR t) ≠ .none) :
    RelAt w0 im0 N D (updN bm d w.heap.size) rm (ovr [(kB d, .box ty cs)] L) a (w.alloc (.cells us.toArray ty)) := by
  have hbel : Below w.heap.size w (w.alloc (.cells us.toArray ty)) := (Below.refl _ w).alloc (Nat.le_refl _) _
  have hnew : (w.alloc (.cells us.toArray ty)).heap[w.heap.size]? = some (.cells us.toArray ty (0, 0)) := heap_alloc_new w _
  have hnd : ∀ k, isBox L k → k ≠ d := by
    rintro k (⟨ty', cs', hc⟩ | ⟨o, hc⟩) rfl <;> (rw [hn] at hc; cases hc)
  have iB : ∀ k, isBox (ovr [(kB d, .box ty cs)] L) k ↔ k = d ∨ isBox L k := fun k => by
    simp only [isBox, ovrB_B]
    by_cases hk : d = k
    · subst hk; simp
    · simp [hk, Ne.symm hk]
  have iR : ∀ k, isRow (ovr [(kB d, .box ty cs)] L) k = isRow L k := fun k => by simp only [isRow, ovrB_R]
  have hK : Keeps (imOf w0.heap.size im0 bm rm L w) w (imOf w0.heap.size im0 (updN bm d w.heap.size) rm (ovr [(kB d, .box ty cs)] L) (w.alloc (.cells us.toArray ty))) (w.alloc (.cells us.toArray ty)) := by
    intro b hb
    refine ⟨⟨hb.1.keep hbel.size (hbel.block b hb.1.1), hb.2.1, fun k hk => ?_, fun t ht => ?_⟩, hbel.block b hb.1.1⟩
    · rcases (iB k).1 hk with rfl | hk
      · rw [updN_same]; have := hb.1.1; omega
      · rw [updN_ne (hnd k hk)]; exact hb.2.2.1 k hk
    · rw [iR] at ht; exact hb.2.2.2 t ht
  have agree : ∀ {c : Cont} {i : Nat}, L i = c → ∀ k ∈ c.boxes, updN bm d w.heap.size k = bm k := by
    rintro c i rfl k hk
    refine updN_ne ?_
    rintro rfl
    exact h.wfb _ k hk hn
  have agree' : ∀ k ∈ cs.flatMap CV.boxes, updN bm d w.heap.size k = bm k := by
    intro k hk
    refine updN_ne ?_
    rintro rfl
    exact hb k hk hn
  refine ⟨h.base.trans (hbel.mono h.base.size), h.size, h.defs.keep (by first | exact Nat.le_refl _ | exact hg.size | exact hbel.size | exact hw.size | exact hs | (simp; done) | omega) hK (fun b hb => hbel.block b (mach_lt hb)), fun d' v hv' => ?_, fun k ty' cs' hc => ?_, fun k o hc => ?_, fun t e k es ht => ?_, fun k k' hk hk' he => ?_, fun k t hk ht => ?_, fun t t' g => by rw [iR, iR]; exact h.rr t t' g, fun i k hk => ?_, fun i t ht => ?_⟩
  · rw [ovrB_T] at hv'
    exact (h.slots d' v hv').keep hK (agree hv') (fun _ _ => rfl)
  · rw [ovrB_B] at hc
    by_cases hdk : d = k
    · subst hdk
      rw [if_pos rfl] at hc
      cases hc
      exact ⟨us, by rw [updN_same]; exact hnew, hv.keep hK agree' (fun _ _ => rfl), by rw [updN_same]; exact h.base.size⟩
    · rw [if_neg hdk] at hc
      obtain ⟨us', hu, hr', hn'⟩ := h.boxes k ty' cs' hc
      rw [updN_ne (Ne.symm hdk)]
      exact ⟨us', by rw [hbel.block _ (h.boxlt (.inl ⟨ty', cs', hc⟩))]; exact hu, hr'.keep hK (agree (c := .box ty' cs') hc) (fun _ _ => rfl), hn'⟩
  · rw [ovrB_B] at hc
    by_cases hdk : d = k
    · rw [if_pos hdk] at hc; cases hc
    · rw [if_neg hdk] at hc
      obtain ⟨O, hu, hr', hn'⟩ := h.objs k o hc
      rw [updN_ne (Ne.symm hdk)]
      exact ⟨O, by rw [hbel.block _ (h.boxlt (.inr ⟨o, hc⟩))]; exact hu, hr'.keep hK, hn'⟩
  · rw [ovrB_R] at ht
    obtain ⟨xs, hx, hl, hr'⟩ := h.rows t e k es ht
    exact ⟨xs, hx.alloc _, hl.keep hK, hr'⟩
  · rcases (iB k).1 hk with rfl | hk1
    · rcases (iB k').1 hk' with rfl | hk2
      · rfl
      · by_cases hkd : k' = k
        · exact hkd.symm
        · rw [updN_same, updN_ne hkd] at he
          have := h.boxlt hk2; omega
    · rcases (iB k').1 hk' with rfl | hk2
      · by_cases hkd : k = k'
        · exact hkd
        · rw [updN_same, updN_ne hkd] at he
          have := h.boxlt hk1; omega
      · have e1 : k ≠ d := hnd k hk1
        have e2 : k' ≠ d := hnd k' hk2
        rw [updN_ne e1, updN_ne e2] at he
        exact h.bb k k' hk1 hk2 he
  · rw [iR] at ht
    rcases (iB k).1 hk with rfl | hk1
    · rw [updN_same]
      intro hg
      have := h.rowlt ht hg; omega
    · rw [updN_ne (hnd k hk1)]
      exact h.br k t hk1 ht
  · rw [ovrB_B]
    rw [ovr_one] at hk
    by_cases hdk : d = k
    · rw [if_pos hdk]; simp
    · rw [if_neg hdk]
      split at hk
      · exact hb k hk
      · exact h.wfb i k hk
  · rw [ovrB_R]
    rw [ovr_one] at ht
    split at ht
    · exact hr t ht
    · exact h.wfr i t ht
theorem RelAt.setBox (h : RelAt w0 im0 N D bm rm L a w) {d : Nat} {ty : TypeId} {cs cs' : List CV} {us : List Value} {w' : World} (hd : L (kB d) = .box ty cs)
    (hv : RepVs bm rm (imOf w0.heap.size im0 bm rm L w) w cs' us) (hb : ∀ k ∈ cs'.flatMap CV.boxes, L (kB k) ≠ .none) (hr : ∀ t ∈ cs'.flatMap CV.rows, L (kR t) ≠ .none)
    (hos : w'.os = w.os) (htape : w'.tape = w.tape) (hout : w'.output = w.output) (hs : w'.heap.size = w.heap.size) (hnew : w'.heap[bm d]? = some (.cells us.toArray ty (0, 0)))
    (hold : ∀ b, b ≠ bm d → w'.heap[b]? = w.heap[b]?) : RelAt w0 im0 N D bm rm (ovr [(kB d, .box ty cs')] L) a w' := by
  have hbd : isBox L d := .inl ⟨ty, cs, hd⟩
  obtain ⟨us0, hu0, _, hn0⟩ := h.boxes d ty cs hd
  have iB : ∀ k, isBox (ovr [(kB d, .box ty cs')] L) k ↔ isBox L k := fun k => by
    simp only [isBox, ovrB_B]
    by_cases hk : d = k
    · subst hk; simp [hd]
    · simp [hk]
  have iR : ∀ k, isRow (ovr [(kB d, .box ty cs')] L) k = isRow L k := fun k => by simp only [isRow, ovrB_R]
  have hk : Keeps (imOf w0.heap.size im0 bm rm L w) w (imOf w0.heap.size im0 bm rm (ovr [(kB d, .box ty cs')] L) w') w' := by
    intro b hb
    refine ⟨⟨hb.1.keep (by rw [hs]; exact Nat.le_refl _) (hold b (fun e => hb.2.2.1 d hbd e.symm)), hb.2.1, fun k hk => hb.2.2.1 k ((iB k).1 hk), fun t ht => by rw [iR] at ht; exact hb.2.2.2 t ht⟩, hold b (fun e => hb.2.2.1 d hbd e.symm)⟩
  have hbase : Below w0.heap.size w0 w' := ⟨hos.trans h.base.os, htape.trans h.base.tape, hout.trans h.base.output, by rw [hs]; exact h.base.size, fun k hk => by
    rw [hold k (by omega)]; exact h.base.block k hk⟩
  refine ⟨hbase, h.size, h.defs.keep (by first | exact Nat.le_refl _ | exact hg.size | exact hbel.size | exact hw.size | exact hs | (simp; done) | omega) hk (fun b hb => hold b (by rintro rfl; rw [hu0] at hb; cases hb)), fun d' v hv' => ?_, fun k ty' cs'' hc => ?_, fun k o hc => ?_, fun t e k es ht => ?_, fun k k' hk hk' => h.bb k k' ((iB k).1 hk) ((iB k').1 hk'), fun k t hk ht => by rw [iR] at ht; exact h.br k t ((iB k).1 hk) ht, fun t t' g => by rw [iR, iR]; exact h.rr t t' g, fun i k hk => ?_, fun i t ht => ?_⟩
  · rw [ovrB_T] at hv'
    exact (h.slots d' v hv').keep hk (fun _ _ => rfl) (fun _ _ => rfl)
  · rw [ovrB_B] at hc
    by_cases hdk : d = k
    · subst hdk
      rw [if_pos rfl] at hc
      cases hc
      exact ⟨us, hnew, hv.keep hk (fun _ _ => rfl) (fun _ _ => rfl), hn0⟩
    · rw [if_neg hdk] at hc
      obtain ⟨us', hu, hr', hn'⟩ := h.boxes k ty' cs'' hc
      exact ⟨us', by rw [hold _ (fun e => hdk (h.bb k d (.inl ⟨ty', cs'', hc⟩) hbd e).symm)]; exact hu, hr'.keep hk (fun _ _ => rfl) (fun _ _ => rfl), hn'⟩
  · rw [ovrB_B] at hc
    by_cases hdk : d = k
    · rw [if_pos hdk] at hc; cases hc
    · rw [if_neg hdk] at hc
      obtain ⟨O, hu, hr', hn'⟩ := h.objs k o hc
      exact ⟨O, by rw [hold _ (fun e => hdk (h.bb k d (.inr ⟨o, hc⟩) hbd e).symm)]; exact hu, hr'.keep hk, hn'⟩
  · rw [ovrB_R] at ht
    obtain ⟨xs, hx, hl, hr'⟩ := h.rows t e k es ht
    refine ⟨xs, hx.kept (row := some (bm d)) ⟨hos, htape, hout, by omega, fun b _ hb => hold b (fun e => hb (by rw [e]))⟩ ?_, hl.keep hk, hr'⟩
    exact .inr (h.br d t hbd ⟨e, k, es, ht⟩)
  · rw [ovrB_B]
    rw [ovr_one] at hk
    by_cases hdk : d = k
    · rw [if_pos hdk]; simp
    · rw [if_neg hdk]
      split at hk
      · exact hb k hk
      · exact h.wfb i k hk
  · rw [ovrB_R]
    rw [ovr_one] at ht
    split at ht
    · exact hr t ht
    · exact h.wfr i t ht
theorem RelAt.newObj (h : RelAt w0 im0 N D bm rm L a w) {d : Nat} {o : ObV} {O : Obj} (hn : L (kB d) = .none) (hv : RepO (imOf w0.heap.size im0 bm rm L w) w o O) :
    RelAt w0 im0 N D (updN bm d w.heap.size) rm (ovr [(kB d, .obj o)] L) a (w.alloc O) := by
  have hbel : Below w.heap.size w (w.alloc O) := (Below.refl _ w).alloc (Nat.le_refl _) _
  have hnew : (w.alloc O).heap[w.heap.size]? = some O := heap_alloc_new w _
  have hnd : ∀ k, isBox L k → k ≠ d := by
    rintro k (⟨ty', cs', hc⟩ | ⟨o, hc⟩) rfl <;> (rw [hn] at hc; cases hc)
  have iB : ∀ k, isBox (ovr [(kB d, .obj o)] L) k ↔ k = d ∨ isBox L k := fun k => by
    simp only [isBox, ovrB_B]
    by_cases hk : d = k
    · subst hk; simp
    · simp [hk, Ne.symm hk]
  have iR : ∀ k, isRow (ovr [(kB d, .obj o)] L) k = isRow L k := fun k => by simp only [isRow, ovrB_R]
  have hK : Keeps (imOf w0.heap.size im0 bm rm L w) w (imOf w0.heap.size im0 (updN bm d w.heap.size) rm (ovr [(kB d, .obj o)] L) (w.alloc O)) (w.alloc O) := by
    intro b hb
    refine ⟨⟨hb.1.keep hbel.size (hbel.block b hb.1.1), hb.2.1, fun k hk => ?_, fun t ht => ?_⟩, hbel.block b hb.1.1⟩
    · rcases (iB k).1 hk with rfl | hk
      · rw [updN_same]; have := hb.1.1; omega
      · rw [updN_ne (hnd k hk)]; exact hb.2.2.1 k hk
    · rw [iR] at ht; exact hb.2.2.2 t ht
  have agree : ∀ {c : Cont} {i : Nat}, L i = c → ∀ k ∈ c.boxes, updN bm d w.heap.size k = bm k := by
    rintro c i rfl k hk
    refine updN_ne ?_
    rintro rfl
    exact h.wfb _ k hk hn
  refine ⟨h.base.trans (hbel.mono h.base.size), h.size, h.defs.keep (by first | exact Nat.le_refl _ | exact hg.size | exact hbel.size | exact hw.size | exact hs | (simp; done) | omega) hK (fun b hb => hbel.block b (mach_lt hb)), fun d' v hv' => ?_, fun k ty' cs' hc => ?_, fun k o' hc => ?_, fun t e k es ht => ?_, fun k k' hk hk' he => ?_, fun k t hk ht => ?_, fun t t' g => by rw [iR, iR]; exact h.rr t t' g, fun i k hk => ?_, fun i t ht => ?_⟩
  · rw [ovrB_T] at hv'
    exact (h.slots d' v hv').keep hK (agree hv') (fun _ _ => rfl)
  · rw [ovrB_B] at hc
    by_cases hdk : d = k
    · rw [if_pos hdk] at hc; cases hc
    · rw [if_neg hdk] at hc
      obtain ⟨us', hu, hr', hn'⟩ := h.boxes k ty' cs' hc
      rw [updN_ne (Ne.symm hdk)]
      exact ⟨us', by rw [hbel.block _ (h.boxlt (.inl ⟨ty', cs', hc⟩))]; exact hu, hr'.keep hK (agree (c := .box ty' cs') hc) (fun _ _ => rfl), hn'⟩
  · rw [ovrB_B] at hc
    by_cases hdk : d = k
    · subst hdk
      rw [if_pos rfl] at hc
      cases hc
      exact ⟨O, by rw [updN_same]; exact hnew, hv.keep hK, by rw [updN_same]; exact h.base.size⟩
    · rw [if_neg hdk] at hc
      obtain ⟨O', hu, hr', hn'⟩ := h.objs k o' hc
      rw [updN_ne (Ne.symm hdk)]
      exact ⟨O', by rw [hbel.block _ (h.boxlt (.inr ⟨o', hc⟩))]; exact hu, hr'.keep hK, hn'⟩
  · rw [ovrB_R] at ht
    obtain ⟨xs, hx, hl, hr'⟩ := h.rows t e k es ht
    exact ⟨xs, hx.alloc _, hl.keep hK, hr'⟩
  · rcases (iB k).1 hk with rfl | hk1
    · rcases (iB k').1 hk' with rfl | hk2
      · rfl
      · by_cases hkd : k' = k
        · exact hkd.symm
        · rw [updN_same, updN_ne hkd] at he
          have := h.boxlt hk2; omega
    · rcases (iB k').1 hk' with rfl | hk2
      · by_cases hkd : k = k'
        · exact hkd
        · rw [updN_same, updN_ne hkd] at he
          have := h.boxlt hk1; omega
      · have e1 : k ≠ d := hnd k hk1
        have e2 : k' ≠ d := hnd k' hk2
        rw [updN_ne e1, updN_ne e2] at he
        exact h.bb k k' hk1 hk2 he
  · rw [iR] at ht
    rcases (iB k).1 hk with rfl | hk1
    · rw [updN_same]
      intro hg
      have := h.rowlt ht hg; omega
    · rw [updN_ne (hnd k hk1)]
      exact h.br k t hk1 ht
  · rw [ovrB_B]
    rw [ovr_one] at hk
    by_cases hdk : d = k
    · rw [if_pos hdk]; simp
    · rw [if_neg hdk]
      split at hk
      · simp [Cont.boxes] at hk
      · exact h.wfb i k hk
  · rw [ovrB_R]
    rw [ovr_one] at ht
    split at ht
    · simp [Cont.rows] at ht
    · exact h.wfr i t ht
theorem RelAt.setObj (h : RelAt w0 im0 N D bm rm L a w) {d : Nat} {o o' : ObV} {O : Obj} {w' : World} (hd : L (kB d) = .obj o) (hv : RepO (imOf w0.heap.size im0 bm rm L w) w o' O)
    (hos : w'.os = w.os) (htape : w'.tape = w.tape) (hout : w'.output = w.output) (hs : w'.heap.size = w.heap.size) (hnew : w'.heap[bm d]? = some O)
    (hold : ∀ b, b ≠ bm d → w'.heap[b]? = w.heap[b]?) : RelAt w0 im0 N D bm rm (ovr [(kB d, .obj o')] L) a w' := by
  have hbd : isBox L d := .inr ⟨o, hd⟩
  have hn0 := h.boxge hbd
  have iB : ∀ k, isBox (ovr [(kB d, .obj o')] L) k ↔ isBox L k := fun k => by
    simp only [isBox, ovrB_B]
    by_cases hk : d = k
    · subst hk; simp [hd]
    · simp [hk]
  have iR : ∀ k, isRow (ovr [(kB d, .obj o')] L) k = isRow L k := fun k => by simp only [isRow, ovrB_R]
  have hk : Keeps (imOf w0.heap.size im0 bm rm L w) w (imOf w0.heap.size im0 bm rm (ovr [(kB d, .obj o')] L) w') w' := by
    intro b hb
    refine ⟨⟨hb.1.keep (by rw [hs]; exact Nat.le_refl _) (hold b (fun e => hb.2.2.1 d hbd e.symm)), hb.2.1, fun k hk => hb.2.2.1 k ((iB k).1 hk), fun t ht => by rw [iR] at ht; exact hb.2.2.2 t ht⟩, hold b (fun e => hb.2.2.1 d hbd e.symm)⟩
  have hbase : Below w0.heap.size w0 w' := ⟨hos.trans h.base.os, htape.trans h.base.tape, hout.trans h.base.output, by rw [hs]; exact h.base.size, fun k hk => by
    rw [hold k (by omega)]; exact h.base.block k hk⟩
  refine ⟨hbase, h.size, h.defs.keep (by first | exact Nat.le_refl _ | exact hg.size | exact hbel.size | exact hw.size | exact hs | (simp; done) | omega) hk (fun b hb => hold b (by
    rintro rfl
    obtain ⟨O0, hu0, hr0, _⟩ := h.objs d o hd
    rw [hu0, objs_not_mach hr0] at hb; cases hb)), fun d' v hv' => ?_, fun k ty' cs'' hc => ?_, fun k o2 hc => ?_, fun t e k es ht => ?_, fun k k' hk hk' => h.bb k k' ((iB k).1 hk) ((iB k').1 hk'), fun k t hk ht => by rw [iR] at ht; exact h.br k t ((iB k).1 hk) ht, fun t t' g => by rw [iR, iR]; exact h.rr t t' g, fun i k hk => ?_, fun i t ht => ?_⟩
  · rw [ovrB_T] at hv'
    exact (h.slots d' v hv').keep hk (fun _ _ => rfl) (fun _ _ => rfl)
  · rw [ovrB_B] at hc
    by_cases hdk : d = k
    · rw [if_pos hdk] at hc; cases hc
    · rw [if_neg hdk] at hc
      obtain ⟨us', hu, hr', hn'⟩ := h.boxes k ty' cs'' hc
      exact ⟨us', by rw [hold _ (fun e => hdk (h.bb k d (.inl ⟨ty', cs'', hc⟩) hbd e).symm)]; exact hu, hr'.keep hk (fun _ _ => rfl) (fun _ _ => rfl), hn'⟩
  · rw [ovrB_B] at hc
    by_cases hdk : d = k
    · subst hdk
      rw [if_pos rfl] at hc
      cases hc
      exact ⟨O, hnew, hv.keep hk, hn0⟩
    · rw [if_neg hdk] at hc
      obtain ⟨O', hu, hr', hn'⟩ := h.objs k o2 hc
      exact ⟨O', by rw [hold _ (fun e => hdk (h.bb k d (.inr ⟨o2, hc⟩) hbd e).symm)]; exact hu, hr'.keep hk, hn'⟩
  · rw [ovrB_R] at ht
    obtain ⟨xs, hx, hl, hr'⟩ := h.rows t e k es ht
    refine ⟨xs, hx.kept (row := some (bm d)) ⟨hos, htape, hout, by omega, fun b _ hb => hold b (fun e => hb (by rw [e]))⟩ ?_, hl.keep hk, hr'⟩
    exact .inr (h.br d t hbd ⟨e, k, es, ht⟩)
  · rw [ovrB_B]
    rw [ovr_one] at hk
    by_cases hdk : d = k
    · rw [if_pos hdk]; simp
    · rw [if_neg hdk]
      split at hk
      · simp [Cont.boxes] at hk
      · exact h.wfb i k hk
  · rw [ovrB_R]
    rw [ovr_one] at ht
    split at ht
    · simp [Cont.rows] at ht
    · exact h.wfr i t ht
theorem RelAt.kill (h : RelAt w0 im0 N D bm rm L a w) (t : Nat) : RelAt w0 im0 N D bm rm (ovr [(kR t, .dead)] L) a w := by
  have iB : ∀ k, isBox (ovr [(kR t, .dead)] L) k = isBox L k := fun k => by simp only [isBox, ovrR_B]
  have iR : ∀ k, isRow (ovr [(kR t, .dead)] L) k → isRow L k ∧ k ≠ t := fun k ⟨e, q, es, he⟩ => by
    rw [ovrR_R] at he
    split at he
    · cases he
    · rename_i hne; exact ⟨⟨e, q, es, he⟩, Ne.symm hne⟩
  have hk : Keeps (imOf w0.heap.size im0 bm rm L w) w (imOf w0.heap.size im0 bm rm (ovr [(kR t, .dead)] L) w) w := fun b hb =>
    ⟨⟨hb.1, hb.2.1, fun k hk => hb.2.2.1 k (by rw [iB] at hk; exact hk), fun t' ht => hb.2.2.2 t' (iR t' ht).1⟩, rfl⟩
  refine ⟨h.base, h.size, h.defs.keep (by first | exact Nat.le_refl _ | exact hg.size | exact hbel.size | exact hw.size | exact hs | (simp; done) | omega) hk (fun _ _ => rfl), fun d' v hv' => ?_, fun k ty' cs' hc => ?_, fun k o hc => ?_, fun t' e k es ht => ?_, fun k k' => by rw [iB, iB]; exact h.bb k k', fun k t' hk ht => h.br k t' (by rw [iB] at hk; exact hk) (iR t' ht).1, fun t1 t2 g h1 h2 => h.rr t1 t2 g (iR t1 h1).1 (iR t2 h2).1, fun i k hk => ?_, fun i t' ht => ?_⟩
  · rw [ovrR_T] at hv'
    exact (h.slots d' v hv').keep hk (fun _ _ => rfl) (fun _ _ => rfl)
  · rw [ovrR_B] at hc
    obtain ⟨us, hu, hr, hn⟩ := h.boxes k ty' cs' hc
    exact ⟨us, hu, hr.keep hk (fun _ _ => rfl) (fun _ _ => rfl), hn⟩
  · rw [ovrR_B] at hc
    obtain ⟨O, hu, hr, hn⟩ := h.objs k o hc
    exact ⟨O, hu, hr.keep hk, hn⟩
  · rw [ovrR_R] at ht
    split at ht
    · cases ht
    · obtain ⟨xs, hx, hl, hr⟩ := h.rows t' e k es ht
      exact ⟨xs, hx, hl.keep hk, hr⟩
  · rw [ovrR_B]
    rw [ovr_one] at hk
    split at hk
    · simp [Cont.boxes] at hk
    · exact h.wfb i k hk
  · rw [ovrR_R]
    split
    · simp
    · rw [ovr_one] at ht
      split at ht
      · simp [Cont.rows] at ht
      · exact h.wfr i t' ht
theorem RelAt.newRow (h : RelAt w0 im0 N D bm rm L a w) {d r : Nat} {e : TypeId} {k : Nat} {es : List (List PV)} {v : Value} {xs : List Value} {w' : World} {row : Option Nat} (hn : L (kR d) = .none)
    (hg : w.grownBy w' row) (hrow : ∀ g, row = some g → w0.heap.size ≤ g ∧ (∀ k, isBox L k → bm k ≠ g) ∧ (∀ t, isRow L t → t ≠ r → (rm t).ownBlock ≠ some g) ∧ ¬ imOf w0.heap.size im0 bm rm L w g ∧ Obj.machB w.heap[g]? = false)
    (hx : w'.ownsRow w0.heap.size e k v es.length xs) (hfresh : ∀ g, v.ownBlock = some g → row = some g ∨ w.heap.size ≤ g)
    (hl : RepL (imOf w0.heap.size im0 bm rm L w) w es.flatten xs) (hk : (∀ x ∈ es, x.length = k) ∧ ∀ u ∈ xs, u.oneCell' = true) :
    RelAt w0 im0 N D bm (updN rm d v) (ovr [(kR d, .row e k es), (kR r, .dead)] L) a w' := by
  have hnd : ∀ t, isRow L t → t ≠ d := by
    rintro t ⟨e', k', es', hc⟩ rfl
    rw [hn] at hc; cases hc
  have oT : ∀ k', ovr [(kR d, .row e k es), (kR r, .dead)] L (kT k') = L (kT k') := fun k' => by rw [ovr_cons, ovrR_T, ovrR_T]
  have oB : ∀ k', ovr [(kR d, .row e k es), (kR r, .dead)] L (kB k') = L (kB k') := fun k' => by rw [ovr_cons, ovrR_B, ovrR_B]
  have oR : ∀ t, ovr [(kR d, .row e k es), (kR r, .dead)] L (kR t) = if d = t then .row e k es else if r = t then .dead else L (kR t) := fun t => by rw [ovr_cons, ovrR_R, ovrR_R]
  have oI : ∀ i, (∃ c, (c = Cont.row e k es ∨ c = Cont.dead) ∧ ovr [(kR d, .row e k es), (kR r, .dead)] L i = c) ∨ ovr [(kR d, .row e k es), (kR r, .dead)] L i = L i := fun i => by
    rw [ovr_cons, ovr_one, ovr_one]
    split
    · exact .inl ⟨_, .inl rfl, rfl⟩
    · split
      · exact .inl ⟨_, .inr rfl, rfl⟩
      · exact .inr rfl
  have iB' : ∀ k', isBox (ovr [(kR d, .row e k es), (kR r, .dead)] L) k' = isBox L k' := fun k' => by simp only [isBox, oB]
  have iR : ∀ t, isRow (ovr [(kR d, .row e k es), (kR r, .dead)] L) t ↔ t = d ∨ (isRow L t ∧ t ≠ r) := fun t => by
    simp only [isRow, oR]
    by_cases hk : d = t
    · subst hk; simp
    · by_cases hr : r = t
      · subst hr; simp [hk, Ne.symm hk]
      · simp [hk, hr, Ne.symm hk, Ne.symm hr]
  have hblk : ∀ b, b < w.heap.size → row ≠ some b → w'.heap[b]? = w.heap[b]? := fun b hb hne => hg.block b hb (fun e => hne e.symm)
  have hk1 : Keeps (imOf w0.heap.size im0 bm rm L w) w (imOf w0.heap.size im0 bm (updN rm d v) (ovr [(kR d, .row e k es), (kR r, .dead)] L) w') w' := by
    intro b hb
    have hne : row ≠ some b := fun e => (hrow b e).2.2.2.1 hb
    refine ⟨⟨hb.1.keep hg.size (hblk b hb.1.1 hne), hb.2.1, fun k' hk' => hb.2.2.1 k' (by rw [iB'] at hk'; exact hk'), fun t ht => ?_⟩, hblk b hb.1.1 hne⟩
    rcases (iR t).1 ht with rfl | ⟨ht, _⟩
    · rw [updN_same]
      intro hv
      rcases hfresh b hv with hh | hh
      · exact hne hh
      · have := hb.1.1; omega
    · rw [updN_ne (hnd t ht)]; exact hb.2.2.2 t ht
  have agree : ∀ {c : Cont} {i : Nat}, L i = c → ∀ t ∈ c.rows, updN rm d v t = rm t := by
    rintro c i rfl t ht
    refine updN_ne ?_
    rintro rfl
    exact h.wfr _ t ht hn
  have hbase : Below w0.heap.size w0 w' := ⟨hg.os.trans h.base.os, hg.tape.trans h.base.tape, hg.output.trans h.base.output, Nat.le_trans h.base.size hg.size, fun b hb => by
    rw [hblk b (Nat.lt_of_lt_of_le hb h.base.size) (fun e => by have := (hrow b e).1; omega)]; exact h.base.block b hb⟩
  refine ⟨hbase, h.size, h.defs.keep (by first | exact Nat.le_refl _ | exact hg.size | exact hbel.size | exact hw.size | exact hs | (simp; done) | omega) hk1 (fun b hb => hblk b (mach_lt hb) (fun e => by rw [(hrow b e).2.2.2.2] at hb; cases hb)), fun d' v' hv' => ?_, fun k' ty' cs' hc => ?_, fun k' o hc => ?_, fun t e' k' es' ht => ?_, fun k1 k2 => by rw [iB', iB']; exact h.bb k1 k2, fun k' t hk' ht => ?_, fun t t' g ht ht' hg1 hg2 => ?_, fun i k' hk' => ?_, fun i t ht => ?_⟩
  · rw [oT] at hv'
    exact (h.slots d' v' hv').keep hk1 (fun _ _ => rfl) (agree hv')
  · rw [oB] at hc
    obtain ⟨us, hu, hr, hn'⟩ := h.boxes k' ty' cs' hc
    exact ⟨us, by rw [hblk _ (h.boxlt (.inl ⟨ty', cs', hc⟩)) (fun e => (hrow _ e).2.1 k' (.inl ⟨ty', cs', hc⟩) rfl)]; exact hu, hr.keep hk1 (fun _ _ => rfl) (agree (c := .box ty' cs') hc), hn'⟩
  · rw [oB] at hc
    obtain ⟨O, hu, hr, hn'⟩ := h.objs k' o hc
    exact ⟨O, by rw [hblk _ (h.boxlt (.inr ⟨o, hc⟩)) (fun e => (hrow _ e).2.1 k' (.inr ⟨o, hc⟩) rfl)]; exact hu, hr.keep hk1, hn'⟩
  · rw [oR] at ht
    by_cases hdt : d = t
    · subst hdt
      rw [if_pos rfl] at ht
      cases ht
      exact ⟨xs, by rw [updN_same]; exact hx, hl.keep hk1, hk⟩
    · rw [if_neg hdt] at ht
      by_cases hrt : r = t
      · rw [if_pos hrt] at ht; cases ht
      · rw [if_neg hrt] at ht
        obtain ⟨xs', hx', hl', hr'⟩ := h.rows t e' k' es' ht
        rw [updN_ne (Ne.symm hdt)]
        refine ⟨xs', hx'.kept hg ?_, hl'.keep hk1, hr'⟩
        cases row with
        | none => cases (rm t).ownBlock <;> simp
        | some g => exact .inr ((hrow g rfl).2.2.1 t ⟨e', k', es', ht⟩ (Ne.symm hrt))
  · rw [iB'] at hk'
    rcases (iR t).1 ht with rfl | ⟨ht, _⟩
    · rw [updN_same]
      intro hv
      rcases hfresh _ hv with hh | hh
      · exact (hrow _ hh).2.1 k' hk' rfl
      · have := h.boxlt hk'; omega
    · rw [updN_ne (hnd t ht)]; exact h.br k' t hk' ht
  · have key : ∀ t1, isRow L t1 → t1 ≠ r → (updN rm d v t1).ownBlock = some g → v.ownBlock = some g → False := fun t1 h1 hr1 hg1 hg2 => by
      rw [updN_ne (hnd t1 h1)] at hg1
      rcases hfresh g hg2 with hh | hh
      · exact (hrow g hh).2.2.1 t1 h1 hr1 hg1
      · have := h.rowlt h1 hg1; omega
    rcases (iR t).1 ht with rfl | ⟨ht1, hr1⟩
    · rcases (iR t').1 ht' with rfl | ⟨ht2, hr2⟩
      · rfl
      · rw [updN_same] at hg1; exact (key t' ht2 hr2 hg2 hg1).elim
    · rcases (iR t').1 ht' with rfl | ⟨ht2, hr2⟩
      · rw [updN_same] at hg2; exact (key t ht1 hr1 hg1 hg2).elim
      · rw [updN_ne (hnd t ht1)] at hg1
        rw [updN_ne (hnd t' ht2)] at hg2
        exact h.rr t t' g ht1 ht2 hg1 hg2
  · rw [oB]
    rcases oI i with ⟨c, hc | hc, he⟩ | he
    · rw [he, hc] at hk'; simp [Cont.boxes] at hk'
    · rw [he, hc] at hk'; simp [Cont.boxes] at hk'
    · rw [he] at hk'; exact h.wfb i k' hk'
  · rw [oR]
    split
    · simp
    · split
      · simp
      · rcases oI i with ⟨c, hc | hc, he⟩ | he
        · rw [he, hc] at ht; simp [Cont.rows] at ht
        · rw [he, hc] at ht; simp [Cont.rows] at ht
        · rw [he] at ht; exact h.wfr i t ht
theorem RelAt.setRow (h : RelAt w0 im0 N D bm rm L a w) {d : Nat} {e : TypeId} {k : Nat} {es es' : List (List PV)} {xs : List Value} {w' : World} (hd : L (kR d) = .row e k es)
    (hg : w.grownBy w' (rm d).ownBlock) (hs : w.heap.size ≤ w'.heap.size) (hx : w'.ownsRow w0.heap.size e k (rm d) es'.length xs)
    (hl : RepL (imOf w0.heap.size im0 bm rm L w) w es'.flatten xs) (hk : (∀ x ∈ es', x.length = k) ∧ ∀ u ∈ xs, u.oneCell' = true) : RelAt w0 im0 N D bm rm (ovr [(kR d, .row e k es')] L) a w' := by
  have hrd : isRow L d := ⟨e, k, es, hd⟩
  have iB : ∀ k', isBox (ovr [(kR d, .row e k es')] L) k' = isBox L k' := fun k' => by simp only [isBox, ovrR_B]
  have iR : ∀ t, isRow (ovr [(kR d, .row e k es')] L) t ↔ isRow L t := fun t => by
    simp only [isRow, ovrR_R]
    by_cases hk : d = t
    · subst hk; simp [hd]
    · simp [hk]
  have hblk : ∀ b, b < w.heap.size → (rm d).ownBlock ≠ some b → w'.heap[b]? = w.heap[b]? := fun b hb hne => hg.block b hb (fun e => hne e.symm)
  have hk1 : Keeps (imOf w0.heap.size im0 bm rm L w) w (imOf w0.heap.size im0 bm rm (ovr [(kR d, .row e k es')] L) w') w' := fun b hb =>
    ⟨⟨hb.1.keep hs (hblk b hb.1.1 (hb.2.2.2 d hrd)), hb.2.1, fun k' hk' => hb.2.2.1 k' (by rw [iB] at hk'; exact hk'), fun t ht => hb.2.2.2 t ((iR t).1 ht)⟩, hblk b hb.1.1 (hb.2.2.2 d hrd)⟩
  have hbase : Below w0.heap.size w0 w' := ⟨hg.os.trans h.base.os, hg.tape.trans h.base.tape, hg.output.trans h.base.output, Nat.le_trans h.base.size hg.size, fun b hb => by
    obtain ⟨xs0, hx0, _⟩ := h.rows d e k es hd
    rw [hblk b (Nat.lt_of_lt_of_le hb h.base.size) (fun e => by have := (hx0.lt b e).1; omega)]; exact h.base.block b hb⟩
  refine ⟨hbase, h.size, h.defs.keep (by first | exact Nat.le_refl _ | exact hg.size | exact hbel.size | exact hw.size | exact hs | (simp; done) | omega) hk1 (fun b hb => hblk b (mach_lt hb) (fun e => by
    obtain ⟨xs0, hx0, _⟩ := h.rows d _ k es hd
    rw [owns_not_mach hx0 e] at hb; cases hb)), fun d' v' hv' => ?_, fun k' ty' cs' hc => ?_, fun k' o hc => ?_, fun t e' k' es'' ht => ?_, fun k1 k2 => by rw [iB, iB]; exact h.bb k1 k2, fun k' t hk' ht => by rw [iB] at hk'; exact h.br k' t hk' ((iR t).1 ht), fun t t' g ht ht' => h.rr t t' g ((iR t).1 ht) ((iR t').1 ht'), fun i k' hk' => ?_, fun i t ht => ?_⟩
  · rw [ovrR_T] at hv'
    exact (h.slots d' v' hv').keep hk1 (fun _ _ => rfl) (fun _ _ => rfl)
  · rw [ovrR_B] at hc
    obtain ⟨us, hu, hr, hn'⟩ := h.boxes k' ty' cs' hc
    exact ⟨us, by rw [hblk _ (h.boxlt (.inl ⟨ty', cs', hc⟩)) (h.br k' d (.inl ⟨ty', cs', hc⟩) hrd)]; exact hu, hr.keep hk1 (fun _ _ => rfl) (fun _ _ => rfl), hn'⟩
  · rw [ovrR_B] at hc
    obtain ⟨O, hu, hr, hn'⟩ := h.objs k' o hc
    exact ⟨O, by rw [hblk _ (h.boxlt (.inr ⟨o, hc⟩)) (h.br k' d (.inr ⟨o, hc⟩) hrd)]; exact hu, hr.keep hk1, hn'⟩
  · rw [ovrR_R] at ht
    by_cases hdt : d = t
    · subst hdt
      rw [if_pos rfl] at ht
      cases ht
      exact ⟨xs, hx, hl.keep hk1, hk⟩
    · rw [if_neg hdt] at ht
      obtain ⟨xs', hx', hl', hr'⟩ := h.rows t e' k' es'' ht
      refine ⟨xs', hx'.kept hg ?_, hl'.keep hk1, hr'⟩
      cases ho : (rm t).ownBlock with
      | none => exact .inl rfl
      | some g => exact .inr fun e => hdt (h.rr d t g hrd ⟨e', k', es'', ht⟩ e.symm ho)
  · rw [ovrR_B]
    rw [ovr_one] at hk'
    split at hk'
    · simp [Cont.boxes] at hk'
    · exact h.wfb i k' hk'
  · rw [ovrR_R]
    split
    · simp
    · rw [ovr_one] at ht
      split at ht
      · simp [Cont.rows] at ht
      · exact h.wfr i t ht
end
def FW (ro : Option Nat) : Fence := { Fence.wide with round := ro }
def wr (α : List (Nat × Cont)) (k : Nat) : Bool := α.any fun p => Nat.beq p.1 k
theorem ovr_notin {α : List (Nat × Cont)} {k : Nat} (h : wr α k = false) (L : Lk) : ovr α L k = L k := by
  induction α with
  | nil => rfl
  | cons x α ih =>
    obtain ⟨j, c⟩ := x
    simp only [wr, List.any_cons, Bool.or_eq_false_iff] at h
    simp only [ovr, h.1, cond_false]
    exact ih h.2
theorem ovr_in {α : List (Nat × Cont)} {k : Nat} (h : wr α k = true) (L L' : Lk) : ovr α L k = ovr α L' k := by
  induction α with
  | nil => simp [wr] at h
  | cons x α ih =>
    obtain ⟨j, c⟩ := x
    simp only [wr, List.any_cons, Bool.or_eq_true] at h
    simp only [ovr]
    cases hb : Nat.beq j k with
    | true => rfl
    | false =>
      rw [hb] at h
      simp only [cond_false]
      refine ih ?_
      rcases h with h | h
      · cases h
      · exact h
abbrev Deed := List (Nat × Cont) × List Nat
def latM (m : Nat → Bool) : Nat → List Deed → Lk → Lk
  | _, [], L => L
  | i, x :: r, L => latM m (i + 1) r (if m i then ovr x.1 L else L)
theorem latM_eq (k : Nat) : ∀ (ts : List Deed) (i : Nat) (m m' : Nat → Bool) (L L' : Lk), L k = L' k → (∀ j x, ts[j]? = some x → wr x.1 k = true → m (i + j) = m' (i + j)) → latM m i ts L k = latM m' i ts L' k
  | [], _, _, _, _, _, h, _ => h
  | x :: r, i, m, m', L, L', h, hm => by
    simp only [latM]
    refine latM_eq k r (i + 1) m m' _ _ ?_ (fun j y hy hw => by have := hm (j + 1) y (by simpa using hy) hw; rwa [← Nat.add_assoc, Nat.add_right_comm] at this)
    cases hw : wr x.1 k with
    | true =>
      have := hm 0 x rfl hw
      rw [Nat.add_zero] at this
      rw [← this]
      cases m i with
      | true => exact ovr_in hw _ _
      | false => exact h
    | false =>
      have e1 : (if m i = true then ovr x.1 L else L) k = L k := by split <;> simp [ovr_notin hw]
      have e2 : (if m' i = true then ovr x.1 L' else L') k = L' k := by split <;> simp [ovr_notin hw]
      rw [e1, e2, h]
theorem latM_last (k : Nat) : ∀ (ts : List Deed) (i j : Nat) (m : Nat → Bool) (x : Deed) (L L' : Lk), ts[j]? = some x → wr x.1 k = true → m (i + j) = true →
    (∀ q y, j < q → ts[q]? = some y → wr y.1 k = true → m (i + q) = false) → latM m i ts L k = ovr x.1 L' k
  | [], _, _, _, _, _, _, h, _, _, _ => by simp at h
  | y :: r, i, 0, m, x, L, L', h, hw, hm, hl => by
    simp at h; subst h
    rw [Nat.add_zero] at hm
    simp only [latM, hm, if_true]
    have := latM_eq k r (i + 1) m (fun _ => false) (ovr y.1 L) (ovr y.1 L) rfl (fun j z hz hwz => by have := hl (j + 1) z (by omega) (by simpa using hz) hwz; rwa [← Nat.add_assoc, Nat.add_right_comm] at this)
    rw [this]
    have stay : ∀ (ts : List Deed) (i : Nat) (L : Lk), latM (fun _ => false) i ts L = L := by
      intro ts; induction ts with
      | nil => intro i L; rfl
      | cons z ts ih => intro i L; simp only [latM, Bool.false_eq_true, if_false]; exact ih _ _
    rw [stay]
    exact ovr_in hw _ _
  | y :: r, i, j + 1, m, x, L, L', h, hw, hm, hl => by
    simp only [latM]
    exact latM_last k r (i + 1) j m x _ L' (by simpa using h) hw (by rwa [← Nat.add_assoc, Nat.add_right_comm] at hm) (fun q z hq hz hwz => by
      have := hl (q + 1) z (by omega) (by simpa using hz) hwz; rwa [← Nat.add_assoc, Nat.add_right_comm] at this)
def confl (x y : Deed) : Bool := x.1.any (fun p => y.2.any (fun q => Nat.beq p.1 q) || wr y.1 p.1) || y.1.any (fun p => x.2.any (fun q => Nat.beq p.1 q))
def anc (ops : Array Oper) (i : Nat) : Nat → Nat → Bool
  | 0, _ => false
  | f + 1, j => match ops[j]? with
    | none => false
    | some o => o.after.toList.any fun e => Region.binds .any e && (Nat.beq e.on i || anc ops i f e.on)
def ordB (ops : Array Oper) (ts : List Deed) : Bool :=
  (List.range ops.size).all fun j =>
    (match ops[j]? with
     | none => true
     | some o => o.after.toList.all fun e => !Region.binds .any e || Nat.blt e.on j) &&
    (List.range j).all fun i => match ts[i]?, ts[j]? with
      | some x, some y => !confl x y || anc ops i ops.size j
      | _, _ => true
def Shut (ops : Array Oper) (listed : Array Bool) : Prop := ∀ j o e, ops[j]? = some o → listed.getD j false = true → e ∈ o.after → Region.binds .any e = true → listed.getD e.on false = true
theorem anc_listed {ops : Array Oper} {listed : Array Bool} (hs : Shut ops listed) (i : Nat) : ∀ (f j : Nat) (o : Oper), ops[j]? = some o →
    (∀ e ∈ o.after, Region.binds .any e = true → listed.getD e.on false = true) → anc ops i f j = true → listed.getD i false = true
  | 0, _, _, _, _, h => by simp [anc] at h
  | f + 1, j, o, ho, hd, h => by
    simp only [anc, ho, List.any_eq_true, Bool.and_eq_true, Bool.or_eq_true] at h
    obtain ⟨e, he, hb, h⟩ := h
    have hel : e ∈ o.after := by simpa using he
    rcases h with h | h
    · have := Nat.eq_of_beq_eq_true h; subst this; exact hd e hel hb
    · cases hq : ops[e.on]? with
      | none =>
        cases f with
        | zero => simp [anc] at h
        | succ f => simp [anc, hq] at h
      | some o' => exact anc_listed hs i f e.on o' hq (fun e' he' hb' => hs e.on o' e' hq (hd e hel hb) he' hb') h
section
variable {ops : Array Oper} {ts : List Deed}
theorem ordB_edge (h : ordB ops ts = true) {j : Nat} {o : Oper} (ho : ops[j]? = some o) {e : Edge} (he : e ∈ o.after) (hb : Region.binds .any e = true) : e.on < j := by
  have hj : j < ops.size := (Array.getElem?_eq_some_iff.1 ho).1
  simp only [ordB, List.all_eq_true, List.mem_range, Bool.and_eq_true] at h
  have := (h j hj).1
  simp only [ho, List.all_eq_true, Bool.or_eq_true, Bool.not_eq_true'] at this
  rcases this e (by simpa using he) with h1 | h1
  · rw [hb] at h1; cases h1
  · simpa [Nat.blt_eq] using h1
theorem ordB_anc (h : ordB ops ts = true) {i j : Nat} {x y : Deed} (hj : j < ops.size) (hij : i < j) (hx : ts[i]? = some x) (hy : ts[j]? = some y) (hc : confl x y = true) : anc ops i ops.size j = true := by
  simp only [ordB, List.all_eq_true, List.mem_range, Bool.and_eq_true] at h
  have := (h j hj).2 i hij
  simpa [hx, hy, hc] using this
theorem confl_ww {x y : Deed} {k : Nat} (h1 : wr x.1 k = true) (h2 : wr y.1 k = true) : confl x y = true := by
  simp only [wr, List.any_eq_true] at h1
  obtain ⟨p, hp, hk⟩ := h1
  have := Nat.eq_of_beq_eq_true hk; subst this
  simp only [confl, Bool.or_eq_true, List.any_eq_true]
  exact .inl ⟨p, hp, .inr h2⟩
theorem confl_wr {x y : Deed} {k : Nat} (h1 : wr x.1 k = true) (h2 : k ∈ y.2) : confl x y = true := by
  simp only [wr, List.any_eq_true] at h1
  obtain ⟨p, hp, hk⟩ := h1
  simp only [confl, Bool.or_eq_true, List.any_eq_true]
  exact .inl ⟨p, hp, .inl ⟨k, h2, hk⟩⟩
theorem confl_rw {x y : Deed} {k : Nat} (h1 : wr y.1 k = true) (h2 : k ∈ x.2) : confl x y = true := by
  simp only [wr, List.any_eq_true] at h1
  obtain ⟨p, hp, hk⟩ := h1
  simp only [confl, Bool.or_eq_true, List.any_eq_true]
  exact .inr ⟨p, hp, k, h2, hk⟩
def hasL (listed : Array Bool) (i : Nat) : Bool := listed.getD i false
def lt_ (j i : Nat) : Bool := Nat.blt i j
theorem shut_ready {listed : Array Bool} {j : Nat} {o : Oper} (hj : j ∈ Region.ready .any ops listed) (ho : ops[j]? = some o) (hsz : listed.size = ops.size) (hE : ∀ {e : Edge}, e ∈ o.after → Region.binds .any e = true → e.on < j) :
    listed.getD j false = false ∧ ∀ e ∈ o.after, Region.binds .any e = true → listed.getD e.on false = true := by
  obtain ⟨hun, o', ho', hall⟩ := mem_ready.1 hj
  rw [ho] at ho'; cases ho'
  have hjs : j < listed.size := by rw [hsz]; exact (Array.getElem?_eq_some_iff.1 ho).1
  refine ⟨by simpa [Array.getElem?_eq_getElem hjs] using hun, fun e he hb => ?_⟩
  exact hall e he hb
theorem lat_read (hB : ordB ops ts = true) {listed : Array Bool} (hs : Shut ops listed) {j : Nat} {o : Oper} {x : Deed} (ho : ops[j]? = some o) (hx : ts[j]? = some x) (hun : listed.getD j false = false)
    (hd : ∀ e ∈ o.after, Region.binds .any e = true → listed.getD e.on false = true) (L : Lk) (hsz : listed.size = ops.size) (k : Nat) (hk : k ∈ x.2) : latM (hasL listed) 0 ts L k = latM (lt_ j) 0 ts L k := by
  refine latM_eq k ts 0 _ _ L L rfl fun i y hy hw => ?_
  rw [Nat.zero_add]
  have hj : j < ops.size := (Array.getElem?_eq_some_iff.1 ho).1
  by_cases hij : i < j
  · have h1 : lt_ j i = true := by simp [lt_, Nat.blt_eq, hij]
    rw [h1]
    exact anc_listed hs i ops.size j o ho hd (ordB_anc hB hj hij hy hx (confl_wr hw hk))
  · have h1 : lt_ j i = false := by
      cases hb : lt_ j i with
      | false => rfl
      | true => simp [lt_, Nat.blt_eq] at hb; omega
    rw [h1]
    by_cases he : i = j
    · subst he; exact hun
    · cases hl : hasL listed i with
      | false => rfl
      | true =>
        exfalso
        have hi : i < listed.size := by
          simp only [hasL, Array.getD_eq_getD_getElem?] at hl
          by_cases h : i < listed.size
          · exact h
          · simp [Array.getElem?_eq_none (Nat.le_of_not_lt h)] at hl
        obtain ⟨oi, hoi⟩ : ∃ oi, ops[i]? = some oi := ⟨ops[i]'(by omega), Array.getElem?_eq_getElem _⟩
        have ha := ordB_anc hB (by omega : i < ops.size) (by omega : j < i) hx hy (confl_rw hw hk)
        have := anc_listed hs j ops.size i oi hoi (fun e he hb => hs i oi e hoi hl he hb) ha
        rw [hun] at this; cases this
theorem lat_done (hB : ordB ops ts = true) {listed : Array Bool} (hs : Shut ops listed) {j : Nat} {o : Oper} {x : Deed} (ho : ops[j]? = some o) (hx : ts[j]? = some x) (hun : listed.getD j false = false)
    (hsz : listed.size = ops.size) (L : Lk) : latM (hasL (listed.setIfInBounds j true)) 0 ts L = ovr x.1 (latM (hasL listed) 0 ts L) := by
  funext k
  have hj : j < listed.size := by rw [hsz]; exact (Array.getElem?_eq_some_iff.1 ho).1
  have hset : ∀ i, i ≠ j → hasL (listed.setIfInBounds j true) i = hasL listed i := fun i hi => by
    simp [hasL, Array.getElem?_setIfInBounds_ne (Ne.symm hi)]
  have hsame : hasL (listed.setIfInBounds j true) j = true := by simp [hasL, hj]
  cases hw : wr x.1 k with
  | false =>
    rw [ovr_notin hw]
    refine latM_eq k ts 0 _ _ L L rfl fun i y hy hwy => ?_
    rw [Nat.zero_add]
    refine hset i fun e => ?_
    subst e
    rw [hx] at hy; cases hy
    rw [hw] at hwy; cases hwy
  | true =>
    refine latM_last k ts 0 j _ x L _ hx hw (by rw [Nat.zero_add]; exact hsame) fun q y hq hy hwy => ?_
    rw [Nat.zero_add, hset q (by omega)]
    cases hl : hasL listed q with
    | false => rfl
    | true =>
      exfalso
      have hi : q < listed.size := by
        simp only [hasL, Array.getD_eq_getD_getElem?] at hl
        by_cases h : q < listed.size
        · exact h
        · simp [Array.getElem?_eq_none (Nat.le_of_not_lt h)] at hl
      obtain ⟨oi, hoi⟩ : ∃ oi, ops[q]? = some oi := ⟨ops[q]'(by omega), Array.getElem?_eq_getElem _⟩
      have ha := ordB_anc hB (by omega : q < ops.size) hq hx hy (confl_ww hw hwy)
      have := anc_listed hs j ops.size q oi hoi (fun e he hb => hs q oi e hoi hl he hb) ha
      rw [hun] at this; cases this
end
theorem countP_lt {p q : Nat → Bool} : ∀ {l : List Nat}, (∀ x ∈ l, q x = true → p x = true) → (∃ x ∈ l, p x = true ∧ q x = false) → l.countP q < l.countP p
  | [], _, ⟨x, h, _⟩ => by simp at h
  | y :: l, hpq, ⟨x, hx, h1, h2⟩ => by
    have hle : ∀ (l : List Nat), (∀ x ∈ l, q x = true → p x = true) → l.countP q ≤ l.countP p := fun l h => by
      induction l with
      | nil => simp
      | cons z l ih =>
        simp only [List.countP_cons]
        have := ih fun x hx => h x (by simp [hx])
        have hz := h z (by simp)
        cases hq : q z <;> cases hp : p z <;> simp_all <;> omega
    simp only [List.countP_cons]
    rcases List.mem_cons.1 hx with rfl | hx
    · have := hle l fun z hz => hpq z (by simp [hz])
      simp [h1, h2]; omega
    · have := countP_lt (l := l) (fun z hz => hpq z (by simp [hz])) ⟨x, hx, h1, h2⟩
      have hy := hpq y (by simp)
      cases hq : q y <;> cases hp : p y <;> simp_all <;> omega
section
variable {w0 : World} {im0 : Nat → Prop} {N : NN} {D : Env} {ro : Option Nat} {n : Nat} {P : Program} {ops : Array Oper} {Q : Exit → Act → World → Prop}
def StepOK (w0 : World) (im0 : Nat → Prop) (N : NN) (D : Env) (ro : Option Nat) (n : Nat) (P : Program) (ops : Array Oper) (i : Nat) (α : List (Nat × Cont)) (L : Lk) : Prop :=
  ∀ (Q : Exit → Act → World → Prop) (K : Act → World → Prop) a w, Rel w0 im0 N D L a w → (∀ a' w', Rel w0 im0 N D (ovr α L) a' w' → K a' w') → wpOpIn (FW ro) n P ops Q i K a w
theorem any_region {ts : List Deed} {L : Lk} (hlen : ts.length = ops.size) (hB : ordB ops ts = true)
    (hstep : ∀ i x, ts[i]? = some x → ∀ L', (∀ k ∈ x.2, L' k = latM (lt_ i) 0 ts L k) → StepOK w0 im0 N D ro n P ops i x.1 L')
    (hend : ∀ a w, Rel w0 im0 N D (latM (fun _ => true) 0 ts L) a w → Q .normal a w) :
    ∀ (fuel : Nat) (listed : Array Bool) (a : Act) (w : World), listed.size = ops.size → Shut ops listed → (List.range ops.size).countP (fun i => !hasL listed i) ≤ fuel →
      Rel w0 im0 N D (latM (hasL listed) 0 ts L) a w → wpAnyIn (FW ro) n P .any ops Q fuel listed a w := by
  have hready : ∀ (listed : Array Bool), listed.size = ops.size → Region.ready .any ops listed = [] → ∀ i, i < ops.size → hasL listed i = true := by
    intro listed hsz hr i
    induction i using Nat.strongRecOn with
    | _ i ih =>
      intro hi
      cases hl : hasL listed i with
      | true => rfl
      | false =>
        exfalso
        have ho : ops[i]? = some ops[i] := Array.getElem?_eq_getElem hi
        have : i ∈ Region.ready .any ops listed := mem_ready.2 ⟨by
          have : i < listed.size := by omega
          simp only [hasL, Array.getD_eq_getD_getElem?, Array.getElem?_eq_getElem this, Option.getD_some] at hl
          simp [Array.getElem?_eq_getElem this, hl], ops[i], ho, fun e he hb => ih e.on (ordB_edge hB ho he hb) (by have := ordB_edge hB ho he hb; omega)⟩
        rw [hr] at this; simp at this
  have hfin : ∀ (listed : Array Bool) (a : Act) (w : World), listed.size = ops.size → Region.ready .any ops listed = [] → Rel w0 im0 N D (latM (hasL listed) 0 ts L) a w → Q .normal a w := by
    intro listed a w hsz hr hrel
    refine hend a w ?_
    have : latM (hasL listed) 0 ts L = latM (fun _ => true) 0 ts L := by
      funext k
      refine latM_eq k ts 0 _ _ L L rfl fun j y hy _ => ?_
      rw [Nat.zero_add]
      exact hready listed hsz hr j (by rw [← hlen]; exact (List.getElem?_eq_some_iff.1 hy).1)
    rwa [this] at hrel
  intro fuel
  induction fuel with
  | zero =>
    intro listed a w hsz hs hc hrel
    have hall : ∀ i, i < ops.size → hasL listed i = true := fun i hi => by
      cases hl : hasL listed i with
      | true => rfl
      | false =>
        have : 0 < (List.range ops.size).countP (fun i => !hasL listed i) := List.countP_pos_iff.2 ⟨i, by simpa using hi, by simp [hl]⟩
        omega
    have hnil : Region.ready .any ops listed = [] := by
      cases hr : Region.ready .any ops listed with
      | nil => rfl
      | cons j r =>
        exfalso
        have hj : j ∈ Region.ready .any ops listed := by rw [hr]; simp
        obtain ⟨hun, o, ho, _⟩ := mem_ready.1 hj
        have hjs : j < ops.size := (Array.getElem?_eq_some_iff.1 ho).1
        have := hall j hjs
        have hjl : j < listed.size := by omega
        simp only [hasL, Array.getD_eq_getD_getElem?, Array.getElem?_eq_getElem hjl, Option.getD_some] at this
        simp [Array.getElem?_eq_getElem hjl, this] at hun
    exact ⟨hnil, hfin listed a w hsz hnil hrel⟩
  | succ fuel ih =>
    intro listed a w hsz hs hc hrel
    refine ⟨fun hr => hfin listed a w hsz hr hrel, fun j hj => ?_⟩
    obtain ⟨_, o, ho, _⟩ := mem_ready.1 hj
    have hjs : j < ops.size := (Array.getElem?_eq_some_iff.1 ho).1
    obtain ⟨hun, hd⟩ := shut_ready hj ho hsz (fun he hb => ordB_edge hB ho he hb)
    obtain ⟨x, hx⟩ : ∃ x, ts[j]? = some x := ⟨ts[j]'(by omega), List.getElem?_eq_getElem _⟩
    refine hstep j x hx _ (fun k hk => lat_read hB hs ho hx hun hd L hsz k hk) Q _ a w hrel fun a' w' hrel' => ?_
    refine ih _ a' w' (by simp [hsz]) ?_ ?_ (by rw [lat_done hB hs ho hx hun hsz L]; exact hrel')
    · intro i oi e hoi hli he hb
      have hset : ∀ q, q ≠ j → (listed.setIfInBounds j true).getD q false = listed.getD q false := fun q hq => by simp [Array.getElem?_setIfInBounds_ne (Ne.symm hq)]
      have hsame : (listed.setIfInBounds j true).getD j false = true := by simp [show j < listed.size by omega]
      have hin : listed.getD e.on false = true := by
        by_cases hij : i = j
        · subst hij; rw [ho] at hoi; cases hoi; exact hd e he hb
        · rw [hset i hij] at hli; exact hs i oi e hoi hli he hb
      by_cases hej : e.on = j
      · rw [hej]; exact hsame
      · rw [hset _ hej]; exact hin
    · have hset : ∀ q, q ≠ j → hasL (listed.setIfInBounds j true) q = hasL listed q := fun q hq => by simp [hasL, Array.getElem?_setIfInBounds_ne (Ne.symm hq)]
      have hsame : hasL (listed.setIfInBounds j true) j = true := by simp [hasL, show j < listed.size by omega]
      have := countP_lt (l := List.range ops.size) (p := fun i => !hasL listed i) (q := fun i => !hasL (listed.setIfInBounds j true) i) (fun q _ hq => by
        by_cases hqj : q = j
        · subst hqj; simp [hsame] at hq
        · simpa [hset q hqj] using hq) ⟨j, by simpa using hjs, by simpa [hasL] using hun, by simp [hsame]⟩
      omega
theorem Rel.drew {L : Lk} {a : Act} {w : World} (h : Rel w0 im0 N D L a w) : Rel w0 im0 N D L a { w with drawn := w.drawn + 1 } := by
  obtain ⟨bm, rm, h⟩ := h
  exact ⟨bm, rm, h.grow ⟨rfl, rfl, rfl, Nat.le_refl _, fun _ _ => rfl⟩⟩
theorem wp_drawn {id : Nat} {ts : List Deed} {L : Lk} {a : Act} {w : World} (hm : P.follows .mixedOrders = true) (hlen : ts.length = ops.size) (hB : ordB ops ts = true)
    (hstep : ∀ i x, ts[i]? = some x → ∀ L', (∀ k ∈ x.2, L' k = latM (lt_ i) 0 ts L k) → StepOK w0 im0 N D ro n P ops i x.1 L')
    (hrel : Rel w0 im0 N D L a w) (hend : ∀ a w, Rel w0 im0 N D (latM (fun _ => true) 0 ts L) a w → Q .normal a w) : (Code.region id ops true).wpIn (FW ro) n P Q a w := by
  refine wpIn_region_any hm ?_
  have hgd : ∀ j, (Array.replicate ops.size false).getD j false = false := fun j => by simp only [Array.getD_eq_getD_getElem?, Array.getElem?_replicate]; split <;> rfl
  refine any_region hlen hB hstep hend _ _ a _ (by simp) (fun j o e _ hj => by rw [hgd] at hj; cases hj) ?_ ?_
  · have := List.countP_le_length (p := fun i => !hasL (Array.replicate ops.size false) i) (l := List.range ops.size)
    simpa using this
  · have : latM (hasL (Array.replicate ops.size false)) 0 ts L = L := by
      have stay : ∀ (ts : List Deed) (i : Nat) (L : Lk), latM (hasL (Array.replicate ops.size false)) i ts L = L := by
        intro ts; induction ts with
        | nil => intro i L; rfl
        | cons z ts ih => intro i L; simp only [latM, hasL, hgd, Bool.false_eq_true, if_false]; exact ih _ _
      exact stay ts 0 L
    rw [this]; exact hrel.drew
theorem wp_plain_ops {L : Lk} : ∀ (l : List Nat) (ts : List Deed) (L : Lk) (a : Act) (w : World),
    (∀ q i x, l[q]? = some i → ts[q]? = some x → StepOK w0 im0 N D ro n P ops i x.1 (latM (lt_ q) 0 ts L)) → l.length = ts.length → Rel w0 im0 N D L a w →
    (∀ a w, Rel w0 im0 N D (latM (fun _ => true) 0 ts L) a w → Q .normal a w) → wpOpsIn (FW ro) n P ops Q l a w
  | [], [], L, a, w, _, _, hr, hend => hend a w hr
  | [], _ :: _, _, _, _, _, hl, _, _ => by simp at hl
  | _ :: _, [], _, _, _, _, hl, _, _ => by simp at hl
  | i :: l, x :: ts, L, a, w, hs, hl, hr, hend => by
    rw [wpOpsIn_cons]
    have none_ : ∀ (ts : List Deed) (i : Nat) (L : Lk), latM (lt_ 0) i ts L = L := by
      intro ts; induction ts with
      | nil => intro i L; rfl
      | cons z ts ih => intro i L; simp only [latM, lt_, Nat.blt]; simp; exact ih _ _
    refine hs 0 i x rfl rfl Q _ a w (by rw [none_]; exact hr) fun a' w' hr' => ?_
    rw [none_] at hr'
    have all_ : ∀ (ts : List Deed) (i j : Nat) (L : Lk), latM (fun _ => true) i ts L = latM (fun _ => true) j ts L := by
      intro ts; induction ts with
      | nil => intro i j L; rfl
      | cons z ts ih => intro i j L; simp only [latM]; exact ih _ _ _
    refine wp_plain_ops (L := L) l ts (ovr x.1 L) a' w' (fun q j y hq hy => ?_) (by simpa using hl) hr' (fun a w h => hend a w (by simp only [latM, if_true]; rw [all_ ts (0 + 1) 0]; exact h))
    have := hs (q + 1) j y (by simpa using hq) (by simpa using hy)
    have shift : ∀ (ts : List Deed) (i : Nat) (L : Lk), latM (lt_ (q + 1)) (i + 1) ts L = latM (lt_ q) i ts L := by
      intro ts; induction ts with
      | nil => intro i L; rfl
      | cons z ts ih => intro i L; simp only [latM]; rw [ih]; simp [lt_, Nat.blt]
    simp only [latM] at this
    have h0 : lt_ (q + 1) 0 = true := by simp [lt_, Nat.blt_eq]
    rw [h0, if_pos rfl, shift] at this
    exact this
end
inductive AskR (β : Type) where
  | done (α : β)
  | fail
  | get (k : Nat) (f : Cont → AskR β)
abbrev Ask := AskR (List (Nat × Cont))
def AskR.run {β : Type} : AskR β → Lk → List Nat → Option (β × List Nat)
  | .done α, _, R => some (α, R)
  | .fail, _, _ => none
  | .get k f, L, R => (f (L k)).run L (k :: R)
theorem AskR.run_sub {β : Type} : ∀ (A : AskR β) (L : Lk) (R : List Nat) (x : β × List Nat), A.run L R = some x → ∀ k ∈ R, k ∈ x.2
  | .done α, L, R, x, h, k, hk => by simp only [AskR.run] at h; cases h; exact hk
  | .fail, L, R, x, h, _, _ => by simp [AskR.run] at h
  | .get q f, L, R, x, h, k, hk => AskR.run_sub (f (L q)) L (q :: R) x h k (by simp [hk])
theorem AskR.local {β : Type} : ∀ (A : AskR β) (L L' : Lk) (R : List Nat) (x : β × List Nat), A.run L R = some x → (∀ k ∈ x.2, L' k = L k) → A.run L' R = some x
  | .done α, L, L', R, x, h, _ => h
  | .fail, L, L', R, x, h, _ => h
  | .get q f, L, L', R, x, h, hk => by
    simp only [AskR.run] at h ⊢
    have hq : L' q = L q := hk q (AskR.run_sub _ L (q :: R) x h q (by simp))
    rw [hq]
    exact AskR.local (f (L q)) L L' (q :: R) x h hk
inductive Lay where
  | no
  | sc (z : PV)
  | st (cm : Bool) (fs : List (Nat × Nat × Bool)) (z : List PV)
  | arr (cm : Bool) (len esz : Nat) (eagg : Bool) (z : List PV)
  | sl (e : TypeId) (esz bytes : Nat) (eagg : Bool) (ez : List PV)
  | mp (kt et : TypeId) (ka va : Bool) (kz vz : List PV)
  deriving Inhabited
def Lay.size : Lay → Nat
  | .no => 0
  | .sc _ => 1
  | .st _ _ z => z.length
  | .arr _ _ _ _ z => z.length
  | .sl .. => 1
  | .mp .. => 1
def Lay.isAgg : Lay → Bool
  | .st .. | .arr .. => true
  | _ => false
def Lay.zero : Lay → List PV
  | .no => []
  | .sc z => [z]
  | .st _ _ z => z
  | .arr _ _ _ _ z => z
  | .sl .. => [.nil]
  | .mp .. => [.nilm]
def Lay.known : Lay → Bool
  | .no => false
  | _ => true
def zeroB : PV → Value → Bool
  | .int k n, .int k' n' => k == k' && n == n'
  | .bool b, .bool b' => b == b'
  | .str s, .string s' => decide (s = s')
  | .nil, .slice none 0 0 => true
  | .nilp, .pointer none => true
  | .nilf, .nilFunc => true
  | .nilm, .map none => true
  | _, _ => false
def zerosB : List PV → List Value → Bool
  | [], [] => true
  | p :: ps, u :: us => zeroB p u && zerosB ps us
  | _, _ => false
theorem zeroB_rep {im : Nat → Prop} {w : World} {p : PV} {u : Value} (h : zeroB p u = true) : RepP im w p u ∧ u.oneCell' = true := by
  unfold zeroB at h
  split at h <;> (try simp only [Bool.and_eq_true, beq_iff_eq, decide_eq_true_eq] at h) <;>
    first
      | (obtain ⟨rfl, rfl⟩ := h; exact ⟨rfl, rfl⟩)
      | (subst h; exact ⟨rfl, rfl⟩)
      | exact ⟨rfl, rfl⟩
      | cases h
theorem zerosB_rep {im : Nat → Prop} {w : World} : ∀ {ps : List PV} {us : List Value}, zerosB ps us = true → RepL im w ps us ∧ ∀ u ∈ us, u.oneCell' = true
  | [], [], _ => by simp [RepL]
  | [], _ :: _, h => by simp [zerosB] at h
  | _ :: _, [], h => by simp [zerosB] at h
  | p :: ps, u :: us, h => by
    simp only [zerosB, Bool.and_eq_true] at h
    have h1 := zeroB_rep (im := im) (w := w) h.1
    have h2 := zerosB_rep (im := im) (w := w) h.2
    refine ⟨⟨u, us, rfl, h1.1, h2.1⟩, fun x hx => ?_⟩
    rcases List.mem_cons.1 hx with rfl | hx
    · exact h1.2
    · exact h2.2 x hx
section
variable (P : Program)
def aggB (t : TypeId) (g : Bool) : Bool := match P.underlying t with
  | some d => d.isRow == g
  | none => false
def sizeB (t : TypeId) (s : Nat) : Bool := match P.info? t with
  | some i => i.size == s
  | none => false
def zeroOfB (t : TypeId) (z : List PV) : Bool := match P.info? t with
  | some i => match i.zero with
    | some v => zerosB z v.cells.toList
    | none => false
  | none => false
def fieldsB : List Field → List (Nat × Nat × Bool) → Bool
  | [], [] => true
  | f :: fs, (o, s, g) :: r => f.offset == o && sizeB P f.type s && aggB P f.type g && fieldsB fs r
  | _, _ => false
def eqFs (g : TypeId → List PV → Bool) : List Field → Nat → List PV → Bool
  | [], off, z => Nat.beq off z.length
  | f :: fs, off, z => f.offset == off && f.name != "_" && (match P.info? f.type with
    | some i => g f.type ((z.drop off).take i.size) && Nat.ble (off + i.size) z.length && eqFs g fs (off + i.size) z
    | none => false)
def eqTB : Nat → TypeId → List PV → Bool
  | 0, _, _ => false
  | d + 1, t, z => match P.underlying t, z with
    | some (.int .i64), [.int .i64 _] => true
    | some .bool, [.bool _] => true
    | some .string, [.str _] => true
    | some (.struct fs), z => !P.stoodInHeld t && !P.eqGuardType P.depth t && eqFs P (eqTB d) fs.toList 0 z
    | some (.array n e), z => !P.eqGuardType P.depth t && (match P.info? e with
      | some i => Nat.beq z.length (n * i.size) && (List.range n).all fun j => eqTB d e ((z.drop (j * i.size)).take i.size)
      | none => false)
    | _, _ => false
def scalB (t : TypeId) : Bool := match P.underlying t with
  | some (.int _) | some .string | some .bool => true
  | _ => false
def zshapeB (t : TypeId) (g : Bool) : Bool := match P.info? t with
  | some i => (match i.zero with
    | some (.agg _) => g
    | some (.tuple _) => false
    | some _ => !g
    | none => false)
  | none => false
def flatKeyB (t : TypeId) : Bool := match P.underlying t with
  | some (.int _) | some .string | some .bool => true
  | some (.struct fs) => fs.toList.all fun f => scalB P f.type
  | _ => false
def layB (t : TypeId) (l : Lay) : Bool := match l with
  | .no => true
  | .sc z => (match z, P.underlying t with | .bool _, some .bool => true | .bool _, _ => false | .int k _, some (.int k') => k == k' | .int _ _, _ => false | _, _ => true) && aggB P t false && sizeB P t 1 && zeroOfB P t [z]
  | .st cm fs z => (!cm || eqTB P 8 t z) && (match P.underlying t with | some (.struct F) => fieldsB P F.toList fs | _ => false) && sizeB P t z.length && zeroOfB P t z
  | .arr cm len esz eagg z => (!cm || eqTB P 8 t z) && (match P.underlying t with | some (.array n e) => n == len && sizeB P e esz && aggB P e eagg | _ => false) && sizeB P t z.length && zeroOfB P t z && z.length == len * esz
  | .sl e esz bytes eagg ez => (match P.underlying t with | some (.slice e') => e' == e | _ => false) && sizeB P t 1 && zeroOfB P t [.nil] && sizeB P e esz && aggB P e eagg && zeroOfB P e ez && ez.length == esz &&
      (match P.info? e with | some i => i.bytes == bytes | none => false)
  | .mp kt et ka va kz vz => (match P.underlying t with | some (.map k' e') => k' == kt && e' == et | _ => false) && sizeB P t 1 && zeroOfB P t [.nilm] && eqTB P 8 kt kz && flatKeyB P kt && aggB P kt ka && aggB P et va && zeroOfB P et vz && (va || vz.length == 1) && zshapeB P et va
def LayOK (t : TypeId) (l : Lay) : Prop := layB P t l = true
def tabB (tab : List (TypeId × Lay)) : Bool := tab.all fun x => layB P x.1 x.2
end
def tabF : List (TypeId × Lay) → TypeId → Lay
  | [], _ => .no
  | (j, l) :: r, t => bif Nat.beq j t then l else tabF r t
theorem tabF_ok {P : Program} : ∀ {tab : List (TypeId × Lay)}, tabB P tab = true → ∀ t, LayOK P t (tabF tab t)
  | [], _, _ => rfl
  | (j, l) :: r, h, t => by
    simp only [tabB, List.all_cons, Bool.and_eq_true] at h
    simp only [tabF]
    cases hb : Nat.beq j t with
    | true => have := Nat.eq_of_beq_eq_true hb; subst this; exact h.1
    | false => exact tabF_ok (tab := r) h.2 t
section
variable {P : Program} {t : TypeId} {l : Lay}
theorem aggB_run {g : Bool} (h : aggB P t g = true) (w : World) : (isAgg t).run P w = .ok g w ∧ ∃ d, P.underlying t = some d ∧ d.isRow = g := by
  unfold aggB at h
  cases hu : P.underlying t with
  | none => simp [hu] at h
  | some d =>
    simp only [hu] at h
    have hg : d.isRow = g := by simpa using h
    refine ⟨?_, d, rfl, hg⟩
    unfold isAgg
    rw [Sem.run_bind, run_underlying hu w]
    subst hg
    cases d <;> simp
theorem sizeB_info {s : Nat} (h : sizeB P t s = true) : ∃ i, P.info? t = some i ∧ i.size = s := by
  unfold sizeB at h
  cases hi : P.info? t with
  | none => simp [hi] at h
  | some i => exact ⟨i, rfl, by simpa [hi] using h⟩
theorem sizeB_run {s : Nat} (h : sizeB P t s = true) (w : World) : (sizeOf t).run P w = .ok s w := by
  obtain ⟨i, hi, rfl⟩ := sizeB_info h
  simp [sizeOf, typeInfo, Sem.run_bind, hi]
theorem zeroOfB_run {z : List PV} (h : zeroOfB P t z = true) (w : World) : ∃ v : Value, (∀ w', (zeroValue t).run P w' = .ok v w') ∧ (∀ im w', RepL im w' z v.cells.toList) ∧ (∀ u ∈ v.cells.toList, u.oneCell' = true) ∧ ∃ i, P.info? t = some i ∧ i.zero = some v := by
  unfold zeroOfB at h
  cases hi : P.info? t with
  | none => simp [hi] at h
  | some i =>
    simp only [hi] at h
    cases hz : i.zero with
    | none => simp [hz] at h
    | some v =>
      simp only [hz] at h
      refine ⟨v, fun w' => ?_, fun im w' => (zerosB_rep h).1, (zerosB_rep (im := fun _ => True) (w := w) h).2, i, rfl, hz⟩
      simp [zeroValue, typeInfo, Sem.run_bind, hi, hz]
theorem lay_agg (h : LayOK P t l) (hk : l.known = true) : aggB P t l.isAgg = true := by
  unfold LayOK layB at h
  cases l with
  | no => simp [Lay.known] at hk
  | sc z => simp only [Bool.and_eq_true] at h; exact h.1.1.2
  | st cm fs z =>
    simp only [Bool.and_eq_true] at h
    cases hu : P.underlying t with
    | none => simp [hu] at h
    | some d => cases d <;> simp_all [aggB, Lay.isAgg]
  | arr cm len esz eagg z =>
    simp only [Bool.and_eq_true] at h
    cases hu : P.underlying t with
    | none => simp [hu] at h
    | some d => cases d <;> simp_all [aggB, Lay.isAgg]
  | sl e esz bytes eagg ez =>
    simp only [Bool.and_eq_true] at h
    cases hu : P.underlying t with
    | none => simp [hu] at h
    | some d => cases d <;> simp_all [aggB, Lay.isAgg]
  | mp kt et ka va kz vz =>
    simp only [Bool.and_eq_true] at h
    cases hu : P.underlying t with
    | none => simp [hu] at h
    | some d => cases d <;> simp_all [aggB, Lay.isAgg]
theorem lay_size (h : LayOK P t l) (hk : l.known = true) : sizeB P t l.size = true := by
  unfold LayOK layB at h
  cases l with
  | no => simp [Lay.known] at hk
  | sc z => simp only [Bool.and_eq_true] at h; exact h.1.2
  | st cm fs z => simp only [Bool.and_eq_true] at h; exact h.1.2
  | arr cm len esz eagg z => simp only [Bool.and_eq_true] at h; exact h.1.1.2
  | sl e esz bytes eagg ez => simp only [Bool.and_eq_true] at h; exact h.1.1.1.1.1.1.2
  | mp kt et ka va kz vz => simp only [Bool.and_eq_true] at h; exact h.1.1.1.1.1.1.1.1.2
theorem lay_zero (h : LayOK P t l) (hk : l.known = true) : zeroOfB P t l.zero = true := by
  unfold LayOK layB at h
  cases l <;> simp_all [Lay.known, Lay.zero]
end
def constPV : Value → Option PV
  | .int k n => some (.int k n)
  | .bool b => some (.bool b)
  | .string s => some (.str s)
  | .slice none 0 0 => some .nil
  | .pointer none => some .nilp
  | .nilFunc => some .nilf
  | .map none => some .nilm
  | _ => none
theorem constPV_rep {im : Nat → Prop} {w : World} {u : Value} {p : PV} (h : constPV u = some p) : RepP im w p u := by
  unfold constPV at h
  split at h <;> first | (cases h; simp [RepP]) | cases h
def opd {β : Type} (x : Operand) (f : TV → AskR β) : AskR β := match x with
  | .tmp d => .get (kT d) fun c => match c with
    | .t v => f v
    | _ => .fail
  | .const u => match constPV u with
    | some p => f (.c (.p p))
    | none => .fail
  | .func g => f (.c (.p (.fn (.func g) [] [])))
  | .global _ => .fail
section
variable {w0 : World} {im0 : Nat → Prop} {N : NN} {D : Env} {bm : Nat → Nat} {rm : Nat → Value} {L : Lk} {a : Act} {w : World}
structure Holds (w0 : World) (im0 : Nat → Prop) (bm : Nat → Nat) (rm : Nat → Value) (L : Lk) (w : World) (v : TV) (u : Value) : Prop where
  rep : RepT bm rm (imOf w0.heap.size im0 bm rm L w) w v u
  wb : ∀ k ∈ v.boxes, L (kB k) ≠ .none
  wr : ∀ t ∈ v.rows, L (kR t) ≠ .none
theorem opd_inv {β : Type} (h : RelAt w0 im0 N D bm rm L a w) {x : Operand} {f : TV → AskR β} {R : List Nat} {y : β × List Nat} (hr : (opd x f).run L R = some y) :
    ∃ v R', Holds w0 im0 bm rm L w v (a.eval x) ∧ (f v).run L R' = some y := by
  cases x with
  | tmp d =>
    simp only [opd, AskR.run] at hr
    cases hc : L (kT d) with
    | t v =>
      rw [hc] at hr
      exact ⟨v, _, ⟨h.slots d v hc, fun k hk => h.wfb (kT d) k (by rw [hc]; exact hk), fun t ht => h.wfr (kT d) t (by rw [hc]; exact ht)⟩, hr⟩
    | none => rw [hc] at hr; simp [AskR.run] at hr
    | dead => rw [hc] at hr; simp [AskR.run] at hr
    | box ty cs => rw [hc] at hr; simp [AskR.run] at hr
    | row e k es => rw [hc] at hr; simp [AskR.run] at hr
    | obj o => rw [hc] at hr; simp [AskR.run] at hr
  | const u =>
    simp only [opd] at hr
    cases hp : constPV u with
    | none => rw [hp] at hr; simp [AskR.run] at hr
    | some p =>
      rw [hp] at hr
      exact ⟨.c (.p p), R, ⟨constPV_rep (im := imOf w0.heap.size im0 bm rm L w) (w := w) hp, by simp [TV.boxes, CV.boxes], by simp [TV.rows, CV.rows]⟩, hr⟩
  | func g => exact ⟨.c (.p (.fn (.func g) [] [])), R, ⟨by simp [RepT, RepV, RepP, RepL, Act.eval], by simp [TV.boxes, CV.boxes], by simp [TV.rows, CV.rows]⟩, hr⟩
  | global g => simp [opd, AskR.run] at hr
end
def CV.isCell : CV → Bool
  | .p (.agg _) | .p (.tup _) | .und | .unk => false
  | _ => true
def TV.cells : TV → Option (List CV)
  | .c v => bif v.isCell then some [v] else none
  | .agg cs => bif cs.all CV.isCell then some cs else none
def TV.ofPV : PV → TV
  | .agg cs => .agg (cs.map .p)
  | v => .c (.p v)
section
variable {bm : Nat → Nat} {rm : Nat → Value} {im : Nat → Prop} {w : World}
theorem isCell_one {v : CV} {u : Value} (h : v.isCell = true) (hr : RepV bm rm im w v u) : u.oneCell' = true ∧ u.cells = #[u] := by
  cases v with
  | p v =>
    cases v with
    | agg cs => simp [CV.isCell] at h
    | tup cs => simp [CV.isCell] at h
    | list k es => simp only [RepV, RepP] at hr; obtain ⟨A, n, c, rfl, _⟩ := hr; exact ⟨rfl, rfl⟩
    | ptr cs => simp only [RepV, RepP] at hr; obtain ⟨b, o, us, rfl, _⟩ := hr; exact ⟨rfl, rfl⟩
    | fn f a c => simp only [RepV, RepP] at hr; obtain ⟨az, cs, rfl, _⟩ := hr; exact ⟨rfl, rfl⟩
    | own e k es => simp only [RepV, RepP] at hr
    | mark => simp only [RepV, RepP] at hr
    | map ka va kz es => simp only [RepV, RepP] at hr; obtain ⟨b, ms, cl, rfl, _⟩ := hr; exact ⟨rfl, rfl⟩
    | _ => simp only [RepV, RepP] at hr; subst hr; exact ⟨rfl, rfl⟩
  | ptr k off => simp only [RepV] at hr; subst hr; exact ⟨rfl, rfl⟩
  | row t => simp only [RepV] at hr; obtain ⟨_, A, n, c, rfl⟩ := hr; exact ⟨rfl, rfl⟩
  | rptr t k i off => simp only [RepV] at hr; obtain ⟨b, _, _, rfl⟩ := hr; exact ⟨rfl, rfl⟩
  | aptr k off len i => simp only [RepV] at hr; obtain ⟨_, _, rfl⟩ := hr; exact ⟨rfl, rfl⟩
  | clo f ks => simp only [RepV] at hr; subst hr; exact ⟨rfl, rfl⟩
  | mp k => simp only [RepV] at hr; subst hr; exact ⟨rfl, rfl⟩
  | und => simp [CV.isCell] at h
  | unk => simp [CV.isCell] at h
theorem cells_one : ∀ {cs : List CV} {us : List Value}, cs.all CV.isCell = true → RepVs bm rm im w cs us → ∀ u ∈ us, u.oneCell' = true
  | [], us, _, h, u, hu => by simp only [RepVs] at h; subst h; simp at hu
  | c :: cs, us, hc, h, u, hu => by
    simp only [RepVs] at h
    obtain ⟨x, xs, rfl, h1, h2⟩ := h
    simp only [List.all_cons, Bool.and_eq_true] at hc
    rcases List.mem_cons.1 hu with rfl | hu
    · exact (isCell_one hc.1 h1).1
    · exact cells_one hc.2 h2 u hu
theorem TV.cells_rep {v : TV} {cs : List CV} {u : Value} (h : v.cells = some cs) (hr : RepT bm rm im w v u) :
    RepVs bm rm im w cs u.cells.toList ∧ (∀ x ∈ u.cells.toList, x.oneCell' = true) ∧ cs.flatMap CV.boxes = v.boxes ∧ cs.flatMap CV.rows = v.rows := by
  cases v with
  | c v =>
    simp only [TV.cells] at h
    cases hc : v.isCell with
    | false => simp [hc] at h
    | true =>
      simp only [hc, cond_true, Option.some.injEq] at h
      subst h
      obtain ⟨h1, h2⟩ := isCell_one hc hr
      rw [h2]
      exact ⟨⟨u, [], rfl, hr, rfl⟩, by simpa using h1, by simp [TV.boxes], by simp [TV.rows]⟩
  | agg cs' =>
    simp only [TV.cells] at h
    cases hc : cs'.all CV.isCell with
    | false => simp [hc] at h
    | true =>
      simp only [hc, cond_true, Option.some.injEq] at h
      subst h
      obtain ⟨us, rfl, hr⟩ := hr
      refine ⟨by simpa [Value.cells] using hr, by simpa [Value.cells] using cells_one hc hr, rfl, rfl⟩
theorem TV.ofPV_rep {p : PV} {u : Value} (h : RepP im w p u) : RepT bm rm im w (TV.ofPV p) u := by
  cases p with
  | agg cs =>
    simp only [RepP] at h
    obtain ⟨us, rfl, h⟩ := h
    exact ⟨us, rfl, RepVs.pure h⟩
  | _ => exact h
theorem TV.ofPV_boxes (p : PV) : (TV.ofPV p).boxes = [] := by
  cases p <;> simp [TV.ofPV, TV.boxes, CV.boxes, List.flatMap]
theorem TV.ofPV_rows (p : PV) : (TV.ofPV p).rows = [] := by
  cases p <;> simp [TV.ofPV, TV.rows, CV.rows, List.flatMap]
end
end Go.Proofs.Ytjimjdhdnkhfnaa
