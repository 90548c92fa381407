/- Contracts of functions of the program and of the reference, and plain facts: a part of a proof. Own text. -/
import Derived.Lib.SplitLaws
import Derived.Lib.IndexBytes
import Derived.Lib.FieldsP
import Derived.Lib.AtoiAll
import Derived.Lib.ItoaNum
import Derived.Lib.TrimUEq
import Derived.Lib.RuneCount
import Derived.WalkKit
import Derived.WalkSpells
import Derived.Handy
import Derived.Deep.Quiet
import Derived.Deep.QuietTactic
import Derived.BigQuiet
import Derived.StillTail
import Derived.Lib.Hide
import Derived.Test.YtfhcofljlkihoaaGreatDoorProg
import Derived.Carry
set_option linter.unusedVariables false
set_option linter.unusedSimpArgs false
set_option linter.unusedSectionVars false
namespace Go.Proofs.YtfhcofljlkihoaaGreatDoor
open Go
set_option maxHeartbeats 400000

abbrev Bs := List UInt8
/-- The string of these bytes. -/
def mkS (l : Bs) : ByteArray := ⟨l.toArray⟩
theorem mkS_list (s : ByteArray) : mkS s.data.toList = s := by cases s; simp [mkS]
theorem mkS_data (l : Bs) : (mkS l).data.toList = l := by simp [mkS]
theorem mkS_inj {a b : Bs} (h : mkS a = mkS b) : a = b := by have := congrArg (fun s => s.data.toList) h; simpa [mkS] using this
theorem mkS_size (l : Bs) : (mkS l).size = l.length := by simp [mkS, ByteArray.size]
theorem ext_list (s : ByteArray) (a b : Nat) : s.extract a b = mkS ((s.data.toList.drop a).take (b - a)) := by
  rw [← mkS_list (s.extract a b), Lib.extract_data]

/-- The lines of a text; behind a line feed at the end there is none. -/
def linesG : Bs → Bs → List Bs
  | [], cur => if cur = [] then [] else [cur]
  | c :: r, cur => if c = 10 then cur :: linesG r [] else linesG r (cur ++ [c])
def linesL (l : Bs) : List Bs := linesG l []
/-- The pieces of a text between line feeds. -/
def splitG : Bs → Bs → List Bs
  | [], cur => [cur]
  | c :: r, cur => if c = 10 then cur :: splitG r [] else splitG r (cur ++ [c])
theorem splitG_ne (l cur : Bs) : splitG l cur ≠ [] := by
  induction l generalizing cur with
  | nil => simp [splitG]
  | cons c r ih => unfold splitG; split; · simp
                   · exact ih _
theorem lines_split (l cur : Bs) : linesG l cur = if (splitG l cur).getLast? = some [] then (splitG l cur).dropLast else splitG l cur := by
  induction l generalizing cur with
  | nil => by_cases h : cur = [] <;> simp [linesG, splitG, h]
  | cons c r ih =>
    unfold linesG splitG
    split
    · rw [ih]
      have hne := splitG_ne r []
      rw [List.getLast?_cons_of_ne_nil hne, List.dropLast_cons_of_ne_nil hne]
      split <;> rfl
    · exact ih _
theorem linesG_len (l cur : Bs) : (linesG l cur).length ≤ l.length + 1 := by
  induction l generalizing cur with
  | nil => unfold linesG; split <;> simp
  | cons c r ih =>
    unfold linesG
    split
    · have := ih []; simp; omega
    · have := ih (cur ++ [c]); simp; omega
theorem linesG_size (l cur : Bs) : ∀ x ∈ linesG l cur, x.length ≤ cur.length + l.length := by
  induction l generalizing cur with
  | nil => intro x hx; unfold linesG at hx; split at hx <;> simp_all
  | cons c r ih =>
    intro x hx
    unfold linesG at hx
    split at hx
    · rcases List.mem_cons.1 hx with rfl | hx
      · simp
      · have := ih [] x hx; simp at this ⊢; omega
    · have := ih _ x hx; simp at this ⊢; omega

theorem first_split {c : UInt8} {l : Bs} (h : c ∈ l) : ∃ a b, l = a ++ c :: b ∧ c ∉ a := by
  induction l with
  | nil => simp at h
  | cons x r ih =>
    by_cases e : x = c
    · subst e; exact ⟨[], r, rfl, by simp⟩
    · obtain ⟨a, b, rfl, ha⟩ := ih ((List.mem_cons.1 h).resolve_left (fun h => e h.symm))
      exact ⟨x :: a, b, rfl, by simp [ha]; exact fun h => e h.symm⟩
theorem splitK_split (l : Bs) : ∀ cur : Bs, Lib.splitK [10] 0 (Lib.count l [10]) l = splitG l [] := by
  suffices h : ∀ (k : Nat) (l : Bs), l.length ≤ k → Lib.splitK [10] 0 (Lib.count l [10]) l = splitG l [] from fun _ => h l.length l (Nat.le_refl _)
  have pre : ∀ (a b cur : Bs), (10 : UInt8) ∉ a → splitG (a ++ b) cur = splitG b (cur ++ a) := by
    intro a
    induction a with
    | nil => intro b cur _; simp
    | cons c r ih =>
      intro b cur h
      simp only [List.mem_cons, not_or] at h
      simp only [List.cons_append]
      rw [splitG, if_neg (fun e => h.1 e.symm), ih b _ h.2]
      simp
  have none : ∀ (a cur : Bs), (10 : UInt8) ∉ a → splitG a cur = [cur ++ a] := by
    intro a cur h
    have := pre a [] cur h
    simpa [splitG] using this
  intro k
  induction k with
  | zero => intro l h; obtain rfl : l = [] := List.length_eq_zero_iff.1 (by omega); rw [Lib.count_one]; rfl
  | succ k ih =>
    intro l hk
    rw [Lib.count_one]
    by_cases hm : (10 : UInt8) ∈ l
    · obtain ⟨a, b, rfl, ha⟩ : ∃ a b, l = a ++ 10 :: b ∧ (10 : UInt8) ∉ a := first_split hm
      have hc : (a ++ 10 :: b).count 10 = b.count 10 + 1 := by
        rw [List.count_append, List.count_cons_self, List.count_eq_zero_of_not_mem ha]; omega
      rw [hc, pre a _ [] ha]
      have hi : Lib.index (a ++ 10 :: b) [10] = (a.length : Int) := by
        refine Lib.index_first (by simp) ?_ ?_
        · simp [Lib.occAt]
        · intro j hj
          simp only [Lib.occAt]
          cases hd : (a ++ 10 :: b).drop j with
          | nil => rfl
          | cons x t =>
            have hx : (a ++ 10 :: b)[j]? = some x := by
              have := congrArg List.head? hd
              simpa [List.head?_drop] using this
            rw [List.getElem?_append_left hj] at hx
            have : x ∈ a := List.mem_of_getElem? hx
            simp [List.isPrefixOf]
            intro e; subst e; exact ha this
      have hm1 : ¬ (Lib.index (a ++ 10 :: b) [10] == -1) = true := fun e => by have := beq_iff_eq.1 e; omega
      rw [Lib.splitK, if_neg hm1, hi]
      simp only [Int.toNat_natCast, Nat.add_zero, List.length_cons, List.length_nil]
      rw [splitG, if_pos rfl, List.take_left, show (a ++ 10 :: b).drop (a.length + (0 + 1)) = b by simp [List.drop_append]]
      rw [← Lib.count_one, ih b (by simp at hk; omega)]
      simp
    · rw [List.count_eq_zero_of_not_mem hm, none l [] hm]
      simp [Lib.splitK]
end Go.Proofs.YtfhcofljlkihoaaGreatDoor

namespace Go.Proofs.YtfhcofljlkihoaaGreatDoor
open Go
set_option maxHeartbeats 400000

/-- The words of a line. -/
def wordsG : Bs → Bs → List Bs
  | [], cur => if cur = [] then [] else [cur]
  | c :: r, cur => if c = 32 then (if cur = [] then wordsG r [] else cur :: wordsG r []) else wordsG r (cur ++ [c])
def wordsL (l : Bs) : List Bs := if l.head? = some 35 then [] else wordsG l []
theorem wordsG_skip (a b cur : Bs) (h : (32 : UInt8) ∉ a) : wordsG (a ++ b) cur = wordsG b (cur ++ a) := by
  induction a generalizing cur with
  | nil => simp
  | cons c r ih =>
    simp only [List.mem_cons, not_or] at h
    simp only [List.cons_append]
    rw [wordsG, if_neg (fun e => h.1 e.symm), ih _ h.2]
    simp
theorem wordsG_len (l cur : Bs) : (wordsG l cur).length ≤ l.length + 1 := by
  induction l generalizing cur with
  | nil => unfold wordsG; split <;> simp
  | cons c r ih =>
    unfold wordsG
    split
    · split
      · have := ih []; simp; omega
      · have := ih []; simp; omega
    · have := ih (cur ++ [c]); simp; omega
theorem wordsG_size (l cur : Bs) : ∀ x ∈ wordsG l cur, x.length ≤ cur.length + l.length := by
  induction l generalizing cur with
  | nil => intro x hx; unfold wordsG at hx; split at hx <;> simp_all
  | cons c r ih =>
    intro x hx
    unfold wordsG at hx
    split at hx
    · split at hx
      · have := ih [] x hx; simp at this ⊢; omega
      · rcases List.mem_cons.1 hx with rfl | hx
        · simp
        · have := ih [] x hx; simp at this ⊢; omega
    · have := ih _ x hx; simp at this ⊢; omega

theorem dec_facts (n b0 b1 b2 b3 R K : Nat) (h : Lib.decodeN n b0 b1 b2 b3 = (R, K)) (hn : 0 < n) : (R = 32 → b0 = 32 ∧ K = 1) ∧ (b0 = 32 → R = 32) ∧ 1 ≤ K ∧ K ≤ 4 ∧ K ≤ n ∧ (1 < K → b1 ≠ 32) ∧ (2 < K → b2 ≠ 32) ∧ (3 < K → b3 ≠ 32) := by
  unfold Lib.decodeN at h
  repeat' split at h
  all_goals
    simp only [Prod.mk.injEq] at h
    obtain ⟨rfl, rfl⟩ := h
    omega

theorem getD_eq (l : Bs) (k : Nat) (h : k < l.length) : l.getD k 0 = l[k] := by simp [List.getD, h]
def isBlank (n : Nat) : Bool := n == 32
theorem closeSpans_eq (s : ByteArray) (x : List (Nat × Nat) × Option Nat) : Lib.closeSpans s x = match x.2 with | some a => x.1 ++ [(a, s.size)] | none => x.1 := by
  obtain ⟨a, b⟩ := x; cases b <;> rfl
theorem spans_words (s : ByteArray) : ∀ (f pos : Nat) (st : Option Nat) (acc : List (Nat × Nat)), s.size ≤ pos + f → pos ≤ s.size → (∀ a, st = some a → a < pos) →
    (Lib.closeSpans s (Lib.spansFromP isBlank s f pos st acc)).map (fun x => s.extract x.1 x.2) = acc.map (fun x => s.extract x.1 x.2) ++ (wordsG (s.data.toList.drop pos) (match st with | some a => (s.data.toList.take pos).drop a | none => [])).map mkS := by
  have hsz := Lib.size_eq s
  have hend : ∀ (pos : Nat) (st : Option Nat) (acc : List (Nat × Nat)), pos = s.size → (∀ a, st = some a → a < pos) →
      (Lib.closeSpans s (acc, st)).map (fun x => s.extract x.1 x.2) = acc.map (fun x => s.extract x.1 x.2) ++ (wordsG (s.data.toList.drop pos) (match st with | some a => (s.data.toList.take pos).drop a | none => [])).map mkS := by
    intro pos st acc hp hst
    rw [closeSpans_eq, hp, hsz, List.drop_length, List.take_length]
    cases st with
    | none => simp [wordsG]
    | some a =>
      have ha := hst a rfl
      have hne : s.data.toList.drop a ≠ [] := by intro e; have := congrArg List.length e; simp at this; omega
      simp only [wordsG, if_neg hne, List.map_append, List.map_cons, List.map_nil]
      rw [ext_list]
      congr 3
      rw [List.take_of_length_le]; simp
  intro f
  induction f with
  | zero =>
    intro pos st acc h1 h2 h3
    exact hend pos st acc (by omega) h3
  | succ f ih =>
    intro pos st acc h1 h2 h3
    by_cases hlt : pos < s.size
    · unfold Lib.spansFromP
      rw [if_pos hlt]
      obtain ⟨R, K, hd⟩ : ∃ R K, Utf8.decode s pos = (R, K) := ⟨_, _, rfl⟩
      have hN := Lib.decode_N s pos
      rw [hd] at hN
      have hf := dec_facts _ _ _ _ _ R K hN.symm (by omega)
      obtain ⟨f1, f2, f3, f4, f5, f6, f7, f8⟩ := hf
      simp only [hd]
      have hget : s.data.toList[pos]? = some (s.data.toList.getD pos 0) := by
        rw [List.getElem?_eq_getElem (by omega), getD_eq _ _ (by omega)]
      have hdrop : s.data.toList.drop pos = s.data.toList.getD pos 0 :: s.data.toList.drop (pos + 1) := by
        rw [getD_eq _ _ (by omega)]; exact List.drop_eq_getElem_cons (by omega)
      by_cases hR : R = 32
      · obtain ⟨hb0, rfl⟩ := f1 hR
        subst hR
        have hb : s.data.toList.getD pos 0 = 32 := by
          apply UInt8.toNat.inj; rw [hb0]; rfl
        rw [if_pos (by rfl)]
        cases st with
        | none =>
          simp only
          rw [ih (pos + 1) none acc (by omega) (by omega) (by simp), hdrop, hb]
          simp [wordsG]
        | some a =>
          have ha := h3 a rfl
          simp only
          rw [ih (pos + 1) none _ (by omega) (by omega) (by simp), hdrop, hb]
          have hne : (s.data.toList.take pos).drop a ≠ [] := by intro e; have := congrArg List.length e; simp at this; omega
          rw [wordsG, if_pos rfl, if_neg hne]
          simp only [List.map_append, List.map_cons, List.map_nil, List.append_assoc, List.singleton_append]
          rw [ext_list, List.drop_take]
      · have hp : isBlank R = false := by simp [isBlank, hR]
        rw [hp]
        simp only [Bool.false_eq_true, if_false]
        have hall : (32 : UInt8) ∉ (s.data.toList.drop pos).take K := by
          intro hm
          obtain ⟨j, hj, he⟩ := List.getElem_of_mem hm
          have hjK : j < K := by simp at hj; omega
          have he2 : s.data.toList.getD (pos + j) 0 = 32 := by
            rw [List.getElem_take, List.getElem_drop] at he
            rw [getD_eq _ _ (by simp at hj; omega)]; exact he
          have e3 : (s.data.toList.getD (pos + j) 0).toNat = 32 := by rw [he2]; rfl
          rcases (by omega : j = 0 ∨ j = 1 ∨ j = 2 ∨ j = 3) with rfl | rfl | rfl | rfl
          · exact hR (f2 e3)
          · exact f6 (by omega) e3
          · exact f7 (by omega) e3
          · exact f8 (by omega) e3
        have hsplit : s.data.toList.drop pos = (s.data.toList.drop pos).take K ++ s.data.toList.drop (pos + K) := by
          rw [← List.drop_drop, List.take_append_drop]
        cases st with
        | none =>
          simp only
          rw [ih (pos + K) (some pos) acc (by omega) (by omega) (fun a h => by cases h; omega)]
          rw [hsplit, wordsG_skip _ _ _ hall]
          simp only [List.nil_append]
          rw [List.drop_take, Nat.add_sub_cancel_left]
        | some a =>
          have ha := h3 a rfl
          simp only
          rw [ih (pos + K) (some a) acc (by omega) (by omega) (fun b h => by cases h; omega)]
          rw [hsplit, wordsG_skip _ _ _ hall]
          congr 3
          show List.drop a (List.take (pos + K) s.data.toList) = _
          rw [List.take_add, List.drop_append_of_le_length (by simp; omega)]
    · rw [Lib.spansFromP_end _ _ _ _ _ _ hlt]
      exact hend pos st acc (by omega) h3
theorem goFields_words (s : ByteArray) : Lib.goFieldsP isBlank s = (wordsG s.data.toList []).map mkS := by
  have := spans_words s s.size 0 none [] (by omega) (by omega) (by simp)
  simpa [Lib.goFieldsP, Lib.spansOfP] using this

/-- The number that a word is, of at most two digits. -/
def numW : Bs → Option Nat
  | [c] => if 48 ≤ c.toNat ∧ c.toNat ≤ 57 then some (c.toNat - 48) else none
  | [c, d] => if 49 ≤ c.toNat ∧ c.toNat ≤ 57 ∧ 48 ≤ d.toNat ∧ d.toNat ≤ 57 then some ((c.toNat - 48) * 10 + (d.toNat - 48)) else none
  | _ => none
theorem numW_lt {l : Bs} {n : Nat} (h : numW l = some n) : n < 100 := by
  unfold numW at h
  split at h
  · split at h <;> simp at h; omega
  · split at h <;> simp at h; omega
  · cases h
theorem numW_len {l : Bs} {n : Nat} (h : numW l = some n) : l.length = 1 ∨ l.length = 2 := by
  unfold numW at h
  split at h
  · simp
  · simp
  · cases h

/-- As the program reads it: of what Atoi returns, if that is its own text. -/
def numP (l : Bs) : Option Nat := match Lib.atoiAll l with
  | .ok v => if l.length ≤ 2 ∧ 0 ≤ v ∧ Lib.decDigits v.toNat = l then some v.toNat else none
  | _ => none
theorem dd1 {u : Nat} (h : u < 10) : Lib.decDigits u = [UInt8.ofNat (48 + u)] := by rw [Lib.decDigits, dif_pos h]
theorem dd2 {u : Nat} (h1 : ¬ u < 10) (h : u < 100) : Lib.decDigits u = [UInt8.ofNat (48 + u / 10), UInt8.ofNat (48 + u % 10)] := by
  rw [Lib.decDigits, dif_neg h1, dd1 (by omega)]; rfl
theorem u8_of (c : UInt8) (n : Nat) (h : c.toNat = n) : UInt8.ofNat n = c := by subst h; simp
theorem numP_eq (l : Bs) : numP l = numW l := by
  match l with
  | [] => simp [numP, numW, Lib.atoiAll]
  | [c] =>
    have hc := c.toNat_lt
    unfold numP numW Lib.atoiAll
    by_cases h1 : c.toNat = 43 ∨ c.toNat = 45
    · simp only [h1, if_true, Lib.parseMag]
      rw [if_neg (by omega)]
    · simp only [h1, if_false, Lib.parseMag, List.cons_ne_nil, Lib.parseUint10]
      by_cases h2 : 48 ≤ c.toNat ∧ c.toNat ≤ 57
      · rw [if_pos h2, if_pos h2, if_neg (by omega), if_neg (by omega)]
        simp only [Nat.zero_mul, Nat.zero_add]
        rw [if_neg (by omega), if_neg (by omega), if_neg (by omega)]
        have h3 : Lib.decDigits (c.toNat - 48) = [c] := by rw [dd1 (by omega), u8_of c _ (by omega)]
        simp [h3]
      · rw [if_neg h2, if_neg h2]
  | [c, d] =>
    have hc := c.toNat_lt
    have hd := d.toNat_lt
    unfold numP numW Lib.atoiAll
    by_cases h1 : c.toNat = 43 ∨ c.toNat = 45
    · simp only [h1, if_true, Lib.parseMag, List.cons_ne_nil, Lib.parseUint10, if_false]
      rw [if_neg (by omega : ¬ (49 ≤ c.toNat ∧ c.toNat ≤ 57 ∧ 48 ≤ d.toNat ∧ d.toNat ≤ 57))]
      by_cases h2 : 48 ≤ d.toNat ∧ d.toNat ≤ 57
      · rw [if_pos h2, if_neg (by omega), if_neg (by omega)]
        simp only [Nat.zero_mul, Nat.zero_add]
        rw [if_neg (by omega), if_neg (by omega)]
        have h3 : (Lib.decDigits (d.toNat - 48)).length = 1 := by rw [dd1 (by omega)]; rfl
        by_cases h4 : c.toNat = 45
        · simp only [h4, if_true]
          rw [if_neg]
          rintro ⟨_, h5, h6⟩
          have : (-((d.toNat - 48 : Nat) : Int)).toNat = 0 := by omega
          rw [this] at h6
          have := congrArg List.length h6
          rw [dd1 (by omega)] at this
          simp at this
        · simp only [h4, if_false]
          rw [if_neg]
          rintro ⟨_, h5, h6⟩
          have := congrArg List.length h6
          simp only [Int.toNat_natCast] at this
          rw [h3] at this
          simp at this
      · rw [if_neg h2]
    · simp only [h1, if_false, Lib.parseMag, List.cons_ne_nil, Lib.parseUint10]
      by_cases h2 : 48 ≤ c.toNat ∧ c.toNat ≤ 57
      · rw [if_pos h2, if_neg (by omega), if_neg (by omega)]
        by_cases h3 : 48 ≤ d.toNat ∧ d.toNat ≤ 57
        · rw [if_pos h3, if_neg (by omega), if_neg (by omega)]
          simp only [Nat.zero_mul, Nat.zero_add]
          rw [if_neg (by omega), if_neg (by omega), if_neg (by omega)]
          by_cases h4 : 49 ≤ c.toNat
          · rw [if_pos (by omega)]
            have h5 : Lib.decDigits ((c.toNat - 48) * 10 + (d.toNat - 48)) = [c, d] := by
              rw [dd2 (by omega) (by omega), u8_of c _ (by omega), u8_of d _ (by omega)]
            simp only [Int.toNat_natCast, h5, List.length_cons, List.length_nil]
            rw [if_pos ⟨by omega, by omega, trivial⟩]
          · simp only [Int.toNat_natCast]
            rw [if_neg (by omega : ¬ (49 ≤ c.toNat ∧ c.toNat ≤ 57 ∧ 48 ≤ d.toNat ∧ d.toNat ≤ 57)), if_neg]
            rintro ⟨_, _, h6⟩
            have := congrArg List.length h6
            rw [dd1 (by omega)] at this
            simp at this
        · rw [if_neg h3, if_neg (by omega)]
      · rw [if_neg h2, if_neg (by omega)]
  | c :: d :: e :: r =>
    have h1 : numW (c :: d :: e :: r) = none := rfl
    rw [h1]
    unfold numP
    cases Lib.atoiAll (c :: d :: e :: r) with
    | ok v => simp
    | range => rfl
    | _ => rfl
end Go.Proofs.YtfhcofljlkihoaaGreatDoor

namespace Go.Proofs.YtfhcofljlkihoaaGreatDoor
open Go Go.RowKit

section tail
variable {P : Program} {ops : Array Oper} {md : Region.Mode} {C : World → Prop}

/-- Each operation of the head is quiet in the class, in whatever order; L is reached when the head is done. -/
def headAny (P : Program) (md : Region.Mode) (ops : Array Oper) (C : World → Prop) (n : Nat) (L : Array Bool → Act → Prop) : Nat → Array Bool → Act → Prop
  | 0, done, a => L done a
  | f + 1, done, a => Region.ready md ops done ≠ [] ∧
      ∀ i, i ∈ Region.ready md ops done → i < n ∧ qOp P ops C i (headAny P md ops C n L f (done.setIfInBounds i true)) a

theorem headAny_sound {n g : Nat} {L : Array Bool → Act → Prop} {Q : Exit → Act → World → Prop}
    (hL : ∀ done a w, C w → L done a → wpAny P md ops Q g done a w) (f : Nat) :
    ∀ done a w, C w → headAny P md ops C n L f done a → wpAny P md ops Q (f + g) done a w := by
  induction f with
  | zero => intro done a w hw h; rw [Nat.zero_add]; exact hL _ _ _ hw h
  | succ f ih =>
    intro done a w hw h
    have e : f + 1 + g = (f + g) + 1 := by omega
    rw [e]
    refine ⟨fun h0 => absurd h0 h.1, fun i hi => ?_⟩
    exact wpOp_of_qOp hw (fun a' w' hw' hk => ih _ a' w' hw' hk) (h.2 i hi).2

theorem headAny_take {n i : Nat} {oi : Oper} {v : Value} {L : Array Bool → Act → Prop} (hi : ops[i]? = some oi)
    (hsel : ∀ (j : Nat) (o : Oper) cs b, ops[j]? = some o → o.op ≠ .select cs b)
    (hs : Region.sinkB md ops n = true) (hc : Region.chainB md ops n = true) (hn : n < ops.size) (hin : i < n)
    (hend : ∀ done a, L done a → ∀ j ∈ Region.ready md ops done, n ≤ j) (f : Nat) :
    ∀ (done : Array Bool) (a : Act), HeadInv md ops n done →
      (∀ j oj, ops[j]? = some oj → j ≠ i → done.getD j true = false → (∀ e ∈ oj.after, Region.binds md e = true → e.on ≠ i) → oi.apart ops oj = true) →
      i ∈ Region.ready md ops done → YieldsIn P ops C oi v a →
      headAny P md ops C n L f (done.setIfInBounds i true) (a.put oi.dst v) → headAny P md ops C n L (f + 1) done a := by
  have early : ∀ (done : Array Bool), HeadInv md ops n done → i ∈ Region.ready md ops done → ∀ j ∈ Region.ready md ops done, j < n := by
    intro done inv hr j hj
    by_cases h : j < n
    · exact h
    · exact absurd hj (tail_waits hs hc hn inv _ i rfl hin (mem_ready.1 hr).1 j (by omega))
  induction f with
  | zero =>
    intro done a inv _ hr hy H
    refine ⟨List.ne_nil_of_mem hr, fun j hj => ⟨early done inv hr j hj, ?_⟩⟩
    rcases Nat.decEq j i with hji | hji
    · have := hend _ _ H j (ready_mono hj hji)
      have := early done inv hr j hj
      omega
    · subst hji; exact hy.qOp hi H
  | succ f ih =>
    intro done a inv hfree hr hy H
    refine ⟨List.ne_nil_of_mem hr, fun j hj => ⟨early done inv hr j hj, ?_⟩⟩
    rcases Nat.decEq j i with hji | hji
    · have h1 := (H.2 j (ready_mono hj hji)).2
      obtain ⟨hjun, oj, hoj, hall⟩ := mem_ready.1 hj
      have hnot : ∀ e ∈ oj.after, Region.binds md e = true → e.on ≠ i := by
        intro e he hb heq
        have h3 := hall e he hb
        rw [heq, getD_both (mem_ready.1 hr).1] at h3
        cases h3
      have h2 := qOp_put hoj (hfree j oj hoj hji hjun hnot) (fun cs b => hsel i oi cs b hi) (fun cs b => hsel j oj cs b hoj) hy h1
      refine qOp_mono (fun a' h3 => ih (done.setIfInBounds j true) a' (inv.set hj (early done inv hr j hj)) ?_ (ready_mono hr (Ne.symm hji)) h3.1 ?_) h2
      · intro k ok hk hki hun hno
        refine hfree k ok hk hki ?_ hno
        rcases Nat.decEq j k with hjk | hjk
        · rwa [getD_set_ne true hjk] at hun
        · subst hjk; exact hjun
      · rw [Array.setIfInBounds_comm _ _ hji]; exact h3.2
    · subst hji; exact hy.qOp hi H

theorem headAny_lex {n g : Nat} {G : Act → Prop} (hsel : Region.noSelect ops = true) (hs : Region.sinkB md ops n = true) (hc : Region.chainB md ops n = true) (hn : n < ops.size) (l : List Oper) :
    ∀ (k : Nat) (done : Array Bool) (a : Act), (∀ j, j < l.length → l[j]? = ops[k + j]?) → k + l.length = n → HeadInv md ops n done →
    Region.lexHead md ops g l.length k done = true → wpQuiet P ops C G l a →
    headAny P md ops C n (fun d a' => Region.seqB md ops g n d = true ∧ G a') l.length done a := by
  induction l with
  | nil =>
    intro k done a _ hk _ hB h
    obtain rfl : k = n := by simpa using hk
    exact ⟨by simpa [Region.lexHead] using hB, h⟩
  | cons o l ih =>
    intro k done a hl hk inv hB h
    have h0 : ops[k]? = some o := by simpa using (hl 0 (by simp)).symm
    simp only [List.length_cons, Region.lexHead, Bool.and_eq_true] at hB
    have hr : k ∈ Region.ready md ops done := by simpa using hB.1.1
    have hkn : k < n := by simp only [List.length_cons] at hk; omega
    have hq : qOp P ops C k (wpQuiet P ops C G l) a := by unfold qOp; simp only [h0]; exact h
    obtain ⟨v, hy, hK⟩ := yieldsIn_of_qOp h0 hq
    refine headAny_take h0 (Region.noSelect_spec hsel) hs hc hn hkn (fun d a' hL => seqB_ready hL.1) l.length done a inv (Region.free_spec h0 hB.1.2) hr hy ?_
    refine ih (k + 1) _ _ (fun j hj => ?_) (by simp only [List.length_cons] at hk; omega) (inv.set hr hkn) hB.2 hK
    have := hl (j + 1) (by simp; omega)
    simpa [Nat.add_assoc, Nat.add_comm 1 j] using this

/-- THE RULE: the first n operations quiet in the class, walked once in the text's order; the others follow in their one order. -/
theorem wp_region_head_tail {id : Nat} {Q : Exit → Act → World → Prop} {a : Act} {w : World} {l : List Oper} (n : Nat) (hm : P.follows .mixedOrders = true)
    (hB : Region.lexTailB .any l.toArray n = true) (hC : C { w with drawn := w.drawn + 1 })
    (h : wpQuiet P l.toArray C (fun a' => ∀ w', C w' → wpList P l.toArray Q (l.drop n) a' w') (l.take n) a) : (Code.region id l.toArray true).wp P Q a w := by
  simp only [Region.lexTailB, Bool.and_eq_true, decide_eq_true_eq] at hB
  obtain ⟨⟨⟨⟨hsel, hn⟩, hs⟩, hc⟩, hlex⟩ := hB
  have hn' : n < l.length := by simpa using hn
  have htl : (l.take n).length = n := by simp; omega
  have hdl : (l.drop n).length = l.toArray.size - n := by simp
  have inv0 : HeadInv .any l.toArray n (Array.replicate l.toArray.size false) :=
    { size := by simp
      closed := fun j oj _ hl => by rw [getD_replicate_false] at hl; cases hl
      tail := fun t _ ht => getD_in (by simpa using ht) (getD_replicate_false _ _) }
  have H := headAny_lex (md := .any) (C := C) (g := l.toArray.size - n) hsel hs hc hn (l.take n) 0 _ a
    (fun j hj => by rw [htl] at hj; simp [hj]) (by simpa using htl) inv0 (by rw [htl]; exact hlex) h
  refine wp_region_any hm ?_
  have S := headAny_sound (Q := Q) (g := l.toArray.size - n) (fun d a' w' hw' hL => by
    have := wpAny_of_seq (md := .any) (Q' := Q) (l.drop n) n d a' w' (fun j => by simp [List.getElem?_drop]) (by rw [hdl]; exact hL.1) (hL.2 w' hw')
    rwa [hdl] at this) _ _ _ _ hC H
  rw [htl, show n + (l.toArray.size - n) = l.toArray.size by omega] at S
  exact S

/-- No tail. -/
theorem wp_region_head {id : Nat} {Q : Exit → Act → World → Prop} {a : Act} {w : World} {l : List Oper} (hm : P.follows .mixedOrders = true)
    (hB : Region.lexB .any l.toArray = true) (hC : C { w with drawn := w.drawn + 1 })
    (h : wpQuiet P l.toArray C (fun a' => ∀ w', C w' → Q .normal a' w') l a) : (Code.region id l.toArray true).wp P Q a w :=
  wp_region_quiet (C := C) hm hB hC (by simpa using h)
end tail
end Go.Proofs.YtfhcofljlkihoaaGreatDoor

namespace Go.Proofs.YtfhcofljlkihoaaGreatDoor
open Go Go.RowKit

/-- One of five, of six. -/
def g5 (a0 a1 a2 a3 a4 i : Int) : Int := if i = 0 then a0 else if i = 1 then a1 else if i = 2 then a2 else if i = 3 then a3 else a4
def g6 (a0 a1 a2 a3 a4 a5 i : Int) : Int := if i = 0 then a0 else if i = 1 then a1 else if i = 2 then a2 else if i = 3 then a3 else if i = 4 then a4 else a5

theorem at5 (a0 a1 a2 a3 a4 i : Int) (h0 : 0 ≤ i) (h1 : i < 5) :
    [Value.int .i64 a0, .int .i64 a1, .int .i64 a2, .int .i64 a3, .int .i64 a4][i.toNat]? = some (.int .i64 (g5 a0 a1 a2 a3 a4 i)) := by
  rcases (by omega : i = 0 ∨ i = 1 ∨ i = 2 ∨ i = 3 ∨ i = 4) with rfl | rfl | rfl | rfl | rfl <;> rfl
theorem at6 (a0 a1 a2 a3 a4 a5 i : Int) (h0 : 0 ≤ i) (h1 : i < 6) :
    [Value.int .i64 a0, .int .i64 a1, .int .i64 a2, .int .i64 a3, .int .i64 a4, .int .i64 a5][i.toNat]? = some (.int .i64 (g6 a0 a1 a2 a3 a4 a5 i)) := by
  rcases (by omega : i = 0 ∨ i = 1 ∨ i = 2 ∨ i = 3 ∨ i = 4 ∨ i = 5) with rfl | rfl | rfl | rfl | rfl | rfl <;> rfl
theorem at5a (a0 a1 a2 a3 a4 i : Int) (h0 : 0 ≤ i) (h1 : i < 5) :
    (#[Value.int .i64 a0, .int .i64 a1, .int .i64 a2, .int .i64 a3, .int .i64 a4] : Array Value)[i.toNat]? = some (.int .i64 (g5 a0 a1 a2 a3 a4 i)) := by
  rw [← at5 a0 a1 a2 a3 a4 i h0 h1]; simp
theorem at6a (a0 a1 a2 a3 a4 a5 i : Int) (h0 : 0 ≤ i) (h1 : i < 6) :
    (#[Value.int .i64 a0, .int .i64 a1, .int .i64 a2, .int .i64 a3, .int .i64 a4, .int .i64 a5] : Array Value)[i.toNat]? = some (.int .i64 (g6 a0 a1 a2 a3 a4 a5 i)) := by
  rw [← at6 a0 a1 a2 a3 a4 a5 i h0 h1]; simp

@[go_sem] theorem got5 (a0 a1 a2 a3 a4 i : Int) (h0 : 0 ≤ i) (h : i.toNat < [Value.int .i64 a0, .int .i64 a1, .int .i64 a2, .int .i64 a3, .int .i64 a4].length) :
    [Value.int .i64 a0, .int .i64 a1, .int .i64 a2, .int .i64 a3, .int .i64 a4][i.toNat] = .int .i64 (g5 a0 a1 a2 a3 a4 i) := by
  have h1 : i < 5 := by simp at h; omega
  have := at5 a0 a1 a2 a3 a4 i h0 h1
  rw [List.getElem?_eq_getElem h] at this
  exact Option.some.inj this
@[go_sem] theorem got6 (a0 a1 a2 a3 a4 a5 i : Int) (h0 : 0 ≤ i) (h : i.toNat < [Value.int .i64 a0, .int .i64 a1, .int .i64 a2, .int .i64 a3, .int .i64 a4, .int .i64 a5].length) :
    [Value.int .i64 a0, .int .i64 a1, .int .i64 a2, .int .i64 a3, .int .i64 a4, .int .i64 a5][i.toNat] = .int .i64 (g6 a0 a1 a2 a3 a4 a5 i) := by
  have h1 : i < 6 := by simp at h; omega
  have := at6 a0 a1 a2 a3 a4 a5 i h0 h1
  rw [List.getElem?_eq_getElem h] at this
  exact Option.some.inj this
theorem at6n (a0 a1 a2 a3 a4 a5 : Int) (k : Nat) (h : k < 6) :
    [Value.int .i64 a0, .int .i64 a1, .int .i64 a2, .int .i64 a3, .int .i64 a4, .int .i64 a5][k]? = some (.int .i64 (g6 a0 a1 a2 a3 a4 a5 k)) := by
  rcases (by omega : k = 0 ∨ k = 1 ∨ k = 2 ∨ k = 3 ∨ k = 4 ∨ k = 5) with rfl | rfl | rfl | rfl | rfl | rfl <;> rfl
theorem at5n (a0 a1 a2 a3 a4 : Int) (k : Nat) (h : k < 5) :
    [Value.int .i64 a0, .int .i64 a1, .int .i64 a2, .int .i64 a3, .int .i64 a4][k]? = some (.int .i64 (g5 a0 a1 a2 a3 a4 k)) := by
  rcases (by omega : k = 0 ∨ k = 1 ∨ k = 2 ∨ k = 3 ∨ k = 4) with rfl | rfl | rfl | rfl | rfl <;> rfl
attribute [go_sem] at5 at6 at5a at6a

/-- Reading one cell of an array by value. -/
theorem index_lit {P : Program} (w : World) {t e : TypeId} {n : Nat} (cs : Array Value) (i : Int) (ht : P.underlying t = some (.array n e)) (he : P.plainKey e = true) (hc : (sizeOf e).run P w = .ok 1 w)
    (h0 : 0 ≤ i) (h1 : i < n) (h2 : i.toNat < cs.size) :
    (Instr.index t (.agg cs) (.int .i64 i)).run P w = .ok (cs.getD i.toNat undef) w := by
  have hx : cs[i.toNat]? = some (cs.getD i.toNat undef) := by simp [h2]
  have hp := run_part_plain (P := P) (w := w) he hx
  simp only [Instr.index, asIntOf]
  simp [run_underlying ht, h0, h1, hc]
  simpa using hp

section
variable (w : World) (cs : Array Value) (i : Int) (h0 : 0 ≤ i)
include h0
@[go_sem] theorem index28 (h1 : i < 6) (h2 : i.toNat < cs.size) : (Instr.index 39 (.agg cs) (.int .i64 i)).run Tryz.prog w = .ok (cs.getD i.toNat undef) w :=
  index_lit w cs i (n := 6) (e := 3) (by kernel_rfl) (by kernel_rfl) (by kernel_rfl) h0 h1 h2
@[go_sem] theorem index31 (h1 : i < 6) (h2 : i.toNat < cs.size) : (Instr.index 51 (.agg cs) (.int .i64 i)).run Tryz.prog w = .ok (cs.getD i.toNat undef) w :=
  index_lit w cs i (n := 6) (e := 3) (by kernel_rfl) (by kernel_rfl) (by kernel_rfl) h0 h1 h2
@[go_sem] theorem index98 (h1 : i < 6) (h2 : i.toNat < cs.size) : (Instr.index 85 (.agg cs) (.int .i64 i)).run Tryz.prog w = .ok (cs.getD i.toNat undef) w :=
  index_lit w cs i (n := 6) (e := 83) (by kernel_rfl) (by kernel_rfl) (by kernel_rfl) h0 h1 h2
@[go_sem] theorem index23 (h1 : i < 5) (h2 : i.toNat < cs.size) : (Instr.index 23 (.agg cs) (.int .i64 i)).run Tryz.prog w = .ok (cs.getD i.toNat undef) w :=
  index_lit w cs i (n := 5) (e := 3) (by kernel_rfl) (by kernel_rfl) (by kernel_rfl) h0 h1 h2
end

/-! ### Worlds that have grown -/
/-- Words that simp does not turn. -/
def cell2 (w : World) (b o : Nat) : Option Value := w.cell? ⟨b, o, none⟩
def frozen2 (w : World) (b o : Nat) : Bool := w.frozen? ⟨b, o, none⟩
/-- What a world grows by: new blocks; and its count of draws. -/
structure Gr where
  blocks : Array Obj
  count : Nat
instance : Inhabited Gr := ⟨⟨#[], 0⟩⟩
/-- w with new blocks and another count of draws. -/
def grow (w : World) (z : Gr) : World := { w with heap := w.heap ++ z.blocks, drawn := z.count }

theorem below_grow {w w' : World} (h : Below w.heap.size w w') : ∃ z, w' = grow w z := by
  refine ⟨⟨w'.heap.extract w.heap.size w'.heap.size, w'.drawn⟩, ?_⟩
  have hh : w'.heap = w.heap ++ w'.heap.extract w.heap.size w'.heap.size := by
    apply Array.ext_getElem?
    intro i
    rw [Array.getElem?_append]
    have := h.size
    split
    · rename_i hi; exact h.block i hi
    · rename_i hi
      rw [Array.getElem?_extract]
      by_cases h2 : i < w'.heap.size
      · rw [if_pos (by omega)]; congr 1; omega
      · rw [if_neg (by omega)]; simp; omega
  obtain ⟨a, b, c, d, e⟩ := w'
  simp only [grow, World.mk.injEq] at *
  exact ⟨hh, h.tape, trivial, h.os, h.output⟩

theorem grow_below (w : World) (z : Gr) : Below w.heap.size w (grow w z) :=
  ⟨rfl, rfl, rfl, by simp [grow], fun k hk => by simp [grow, Array.getElem?_append, hk]⟩

theorem grow_grow (w : World) (z y : Gr) : ∃ x, grow (grow w z) y = grow w x :=
  below_grow ((grow_below w z).trans ((grow_below (grow w z) y).mono (by simp [grow])))

@[go_sem, simp] theorem grow_size (w : World) (z : Gr) : (grow w z).heap.size = w.heap.size + z.blocks.size := by simp [grow]
theorem grow_cell_lt (w : World) (z : Gr) (b o : Nat) (h : b < w.heap.size) : (grow w z).cell? ⟨b, o, none⟩ = w.cell? ⟨b, o, none⟩ :=
  (grow_below w z).cell (p := ⟨b, o, none⟩) h
theorem grow_frozen_lt (w : World) (z : Gr) (b o : Nat) (h : b < w.heap.size) : (grow w z).frozen? ⟨b, o, none⟩ = w.frozen? ⟨b, o, none⟩ :=
  (grow_below w z).frozen (p := ⟨b, o, none⟩) h
@[go_sem] theorem grow_cell (w : World) (z : Gr) (b o : Nat) : (grow w z).cell? ⟨b, o, none⟩ = if b < w.heap.size then w.cell? ⟨b, o, none⟩ else cell2 (grow w z) b o := by
  split
  · exact grow_cell_lt w z b o (by assumption)
  · rfl
@[go_sem] theorem grow_frozen (w : World) (z : Gr) (b o : Nat) : (grow w z).frozen? ⟨b, o, none⟩ = if b < w.heap.size then w.frozen? ⟨b, o, none⟩ else frozen2 (grow w z) b o := by
  split
  · exact grow_frozen_lt w z b o (by assumption)
  · rfl

/-- A call's contract in the class of the worlds that have grown out of w. -/
theorem quiet_grow {P : Program} {f : FuncId} {args : Array Value} {w w1 : World} {v : Value} {z : Gr} (hz : w1 = grow w z)
    (h : Calls P f args w1 fun e w' => e = .returned v ∧ Below w1.heap.size w1 w') : Calls P f args w1 fun e w' => e = .returned v ∧ ∃ y, w' = grow w y :=
  h.mono fun e w' ⟨he, hb⟩ => ⟨he, by subst hz; obtain ⟨y, hy⟩ := below_grow hb; subst hy; exact grow_grow w z y⟩

/-- A region in any order: what only reads, and calls that make memory of their own, ahead of a tail of one order. -/
theorem wp_region_grow_tail {P : Program} {id : Nat} {Q : Exit → Act → World → Prop} {a : Act} {w : World} {l : List Oper} (n : Nat) (hm : P.follows .mixedOrders = true)
    (hB : Region.lexTailB .any l.toArray n = true)
    (h : wpQuiet P l.toArray (fun w' => ∃ z, w' = grow w z) (fun a' => ∀ z, wpList P l.toArray Q (l.drop n) a' (grow w z)) (l.take n) a) : (Code.region id l.toArray true).wp P Q a w := by
  refine wp_region_head_tail (C := fun w' => ∃ z, w' = grow w z) n hm hB ⟨⟨#[], w.drawn + 1⟩, by simp [grow]⟩ ?_
  have e : (fun a' => ∀ z, wpList P l.toArray Q (l.drop n) a' (grow w z)) = (fun a' => ∀ w', (∃ z, w' = grow w z) → wpList P l.toArray Q (l.drop n) a' w') := by
    funext a'; exact propext ⟨fun h w' ⟨z, hz⟩ => hz ▸ h z, fun h z => h _ ⟨z, rfl⟩⟩
  rw [← e]; exact h
/-- The same without a tail. -/
theorem wp_region_grow {P : Program} {id : Nat} {Q : Exit → Act → World → Prop} {a : Act} {w : World} {l : List Oper} (hm : P.follows .mixedOrders = true)
    (hB : Region.lexB .any l.toArray = true)
    (h : wpQuiet P l.toArray (fun w' => ∃ z, w' = grow w z) (fun a' => ∀ z, Q .normal a' (grow w z)) l a) : (Code.region id l.toArray true).wp P Q a w := by
  refine wp_region_head (C := fun w' => ∃ z, w' = grow w z) hm hB ⟨⟨#[], w.drawn + 1⟩, by simp [grow]⟩ ?_
  have e : (fun a' => ∀ z, Q .normal a' (grow w z)) = (fun a' => ∀ w', (∃ z, w' = grow w z) → Q .normal a' w') := by
    funext a'; exact propext ⟨fun h w' ⟨z, hz⟩ => hz ▸ h z, fun h z => h _ ⟨z, rfl⟩⟩
  rw [← e]; exact h

/-- A contract that leaves the world alone, as one that lets it grow. -/
theorem still_grow {P : Program} {f : FuncId} {args : Array Value} {w : World} {v : Value}
    (h : Calls P f args w fun e w' => e = .returned v ∧ w = w') : Calls P f args w fun e w' => e = .returned v ∧ Below w.heap.size w w' :=
  h.mono fun _ _ ⟨he, hw⟩ => ⟨he, hw ▸ Below.refl _ _⟩

theorem up {W X Y : World} (h1 : Below W.heap.size W X) (h2 : Below X.heap.size X Y) : Below W.heap.size W Y := h1.trans (h2.mono h1.size)
theorem up_alloc (W : World) (o : Obj) : Below W.heap.size W (W.alloc o) := (Below.refl _ _).alloc (Nat.le_refl _) _

end Go.Proofs.YtfhcofljlkihoaaGreatDoor

namespace Go.Proofs.YtfhcofljlkihoaaGreatDoor
open Go.RowKit
set_option maxHeartbeats 400000
set_option maxRecDepth 100000

/-- Two numbers' common bits. -/
def band (a b : Int) : Int := bits BinOp.and IntKind.i64 a b
/-- A sign of a mark. -/
def sg (s : Int) : Prop := 0 ≤ s ∧ s < 5

theorem in_any (n lo hi : Int) (w : World) :
    Calls Tryz.prog 34 #[.int .i64 n, .int .i64 lo, .int .i64 hi] w fun e w' => e = .returned (.bool (decide (lo ≤ n) && decide (n ≤ hi))) ∧ w = w' := by
  by_cases h : lo ≤ n <;> (go_enter Tryz.func34, Tryz.ntmps34; go_wp2; go_ret; exact ⟨by simp [h] <;> omega, rfl⟩)

theorem valid_any (s : Int) (w : World) :
    Calls Tryz.prog 60 #[.int .i64 s] w fun e w' => e = .returned (.bool (decide (0 ≤ s) && decide (s ≤ 31))) ∧ w = w' := by
  by_cases h : 0 ≤ s <;> (go_enter Tryz.func60, Tryz.ntmps60; go_wp2; go_ret; exact ⟨by simp [h] <;> omega, rfl⟩)

theorem places_any (s : Int) (w : World) :
    Calls Tryz.prog 28 #[.int .i64 s] w fun e w' => e = .returned (.bool (decide (0 ≤ s) && decide (s ≤ 2))) ∧ w = w' := by
  by_cases h : 0 ≤ s <;> (go_enter Tryz.func28, Tryz.ntmps28; go_wp2; go_ret; exact ⟨by simp [h] <;> omega, rfl⟩)

theorem owner_any (s : Int) (w : World) :
    Calls Tryz.prog 29 #[.int .i64 s] w fun e w' => e = .returned (.bool (decide (1 ≤ s) && decide (s ≤ 99))) ∧ w = w' := by
  by_cases h : 1 ≤ s <;> (go_enter Tryz.func29, Tryz.ntmps29; go_wp2; go_ret; exact ⟨by simp [h] <;> omega, rfl⟩)

theorem misses_any (a b : Int) (w : World) :
    Calls Tryz.prog 74 #[.int .i64 a, .int .i64 b] w fun e w' => e = .returned (.bool (band a b == 0)) ∧ w = w' := by
  go_enter Tryz.func74, Tryz.ntmps74; go_wp2; go_ret; exact ⟨rfl, rfl⟩

theorem meets_any (a b : Int) (w : World) :
    Calls Tryz.prog 72 #[.int .i64 a, .int .i64 b] w fun e w' => e = .returned (.bool (band a b != 0)) ∧ w = w' := by
  go_enter Tryz.func72, Tryz.ntmps72; go_wp2; go_ret; exact ⟨rfl, rfl⟩

theorem p2_wrap (s : Int) (h0 : 0 ≤ s) (h1 : s < 5) : wrap64 (2 ^ s.toNat) = 2 ^ s.toNat := by
  rcases (by omega : s = 0 ∨ s = 1 ∨ s = 2 ∨ s = 3 ∨ s = 4) with rfl | rfl | rfl | rfl | rfl <;> simp [wrap64]

theorem only_any (s : Int) (w : World) (h0 : 0 ≤ s) (h1 : s < 5) :
    Calls Tryz.prog 57 #[.int .i64 s] w fun e w' => e = .returned (.int .i64 (2 ^ s.toNat)) ∧ w = w' := by
  go_enter Tryz.func57, Tryz.ntmps57; go_wp2; go_ret; exact ⟨by simp [p2_wrap s h0 h1], rfl⟩

theorem has_any (a s : Int) (w : World) (h0 : 0 ≤ s) (h1 : s < 5) :
    Calls Tryz.prog 61 #[.int .i64 a, .int .i64 s] w fun e w' => e = .returned (.bool (band a (2 ^ s.toNat) != 0)) ∧ w = w' := by
  go_enter Tryz.func61, Tryz.ntmps61
  go_wp2_with (go_at_call 57; refine (only_any _ _ h0 h1).mono ?_; rintro e w' ⟨rfl, rfl⟩)
  go_ret; exact ⟨rfl, rfl⟩

theorem wornRow_any (w0 w1 w2 w3 w4 m0 m1 m2 m3 m4 m5 : Int) (w : World) (h0 : 0 ≤ m0) (k0 : m0 < 5) (h1 : 0 ≤ m1) (k1 : m1 < 5) (h2 : 0 ≤ m2) (k2 : m2 < 5)
    (h3 : 0 ≤ m3) (k3 : m3 < 5) (h4 : 0 ≤ m4) (k4 : m4 < 5) (h5 : 0 ≤ m5) (k5 : m5 < 5) :
    Calls Tryz.prog 51 #[.agg #[.int .i64 w0, .int .i64 w1, .int .i64 w2, .int .i64 w3, .int .i64 w4], .agg #[.int .i64 m0, .int .i64 m1, .int .i64 m2, .int .i64 m3, .int .i64 m4, .int .i64 m5]] w fun e w' => 
      e = .returned (.agg #[.int .i64 (g5 w0 w1 w2 w3 w4 m0), .int .i64 (g5 w0 w1 w2 w3 w4 m1), .int .i64 (g5 w0 w1 w2 w3 w4 m2), .int .i64 (g5 w0 w1 w2 w3 w4 m3), .int .i64 (g5 w0 w1 w2 w3 w4 m4), .int .i64 (g5 w0 w1 w2 w3 w4 m5)]) ∧ Below w.heap.size w w' := by
  go_enter Tryz.func51, Tryz.ntmps51
  go_wp2
  refine wp_loop_rounds 7 ?_
  repeat any_goals (rw [rounds_succ]; go_wp2)
  go_returns
  exact ⟨rfl, by go_grown⟩

theorem seenRow_any (m0 m1 m2 m3 m4 m5 : Int) (w : World) :
    Calls Tryz.prog 52 #[.agg #[.int .i64 m0, .int .i64 m1, .int .i64 m2, .int .i64 m3, .int .i64 m4, .int .i64 m5]] w fun e w' => 
      e = .returned (.agg #[.int .i64 m0, .int .i64 m1, .int .i64 m2, .int .i64 m3, .int .i64 m4, .int .i64 m5]) ∧ Below w.heap.size w w' := by
  go_enter Tryz.func52, Tryz.ntmps52
  go_wp2
  refine wp_loop_rounds 7 ?_
  repeat any_goals (rw [rounds_succ]; go_wp2)
  go_returns
  exact ⟨rfl, by go_grown⟩

theorem in_yes (n lo hi : Int) (w : World) (h : lo ≤ n ∧ n ≤ hi) : Calls Tryz.prog 34 #[.int .i64 n, .int .i64 lo, .int .i64 hi] w fun e w' => e = .returned (.bool true) ∧ Below w.heap.size w w' :=
  (in_any n lo hi w).mono fun e w' g => ⟨by rw [g.1]; simp [h.1, h.2], g.2 ▸ Below.refl _ _⟩
theorem in_no (n lo hi : Int) (w : World) (h : ¬ (lo ≤ n ∧ n ≤ hi)) : Calls Tryz.prog 34 #[.int .i64 n, .int .i64 lo, .int .i64 hi] w fun e w' => e = .returned (.bool false) ∧ Below w.heap.size w w' :=
  (in_any n lo hi w).mono fun e w' g => ⟨by rw [g.1]; simp <;> omega, g.2 ▸ Below.refl _ _⟩
theorem in_dec (n lo hi : Int) (w : World) : Calls Tryz.prog 34 #[.int .i64 n, .int .i64 lo, .int .i64 hi] w fun e w' =>
    (e = .returned (.bool true) ∧ (lo ≤ n ∧ n ≤ hi) ∧ w = w') ∨ (e = .returned (.bool false) ∧ ¬ (lo ≤ n ∧ n ≤ hi) ∧ w = w') :=
  (in_any n lo hi w).mono fun e w' h => by
    by_cases c : lo ≤ n ∧ n ≤ hi
    · exact .inl ⟨by rw [h.1]; simp [c.1, c.2], c, h.2⟩
    · exact .inr ⟨by rw [h.1]; simp <;> omega, c, h.2⟩
theorem valid_dec (n : Int) (w : World) : Calls Tryz.prog 60 #[.int .i64 n] w fun e w' =>
    (e = .returned (.bool true) ∧ (0 ≤ n ∧ n ≤ 31) ∧ w = w') ∨ (e = .returned (.bool false) ∧ ¬ (0 ≤ n ∧ n ≤ 31) ∧ w = w') :=
  (valid_any n w).mono fun e w' h => by
    by_cases c : 0 ≤ n ∧ n ≤ 31
    · exact .inl ⟨by rw [h.1]; simp [c.1, c.2], c, h.2⟩
    · exact .inr ⟨by rw [h.1]; simp <;> omega, c, h.2⟩
theorem places_dec (n : Int) (w : World) : Calls Tryz.prog 28 #[.int .i64 n] w fun e w' =>
    (e = .returned (.bool true) ∧ (0 ≤ n ∧ n ≤ 2) ∧ w = w') ∨ (e = .returned (.bool false) ∧ ¬ (0 ≤ n ∧ n ≤ 2) ∧ w = w') :=
  (places_any n w).mono fun e w' h => by
    by_cases c : 0 ≤ n ∧ n ≤ 2
    · exact .inl ⟨by rw [h.1]; simp [c.1, c.2], c, h.2⟩
    · exact .inr ⟨by rw [h.1]; simp <;> omega, c, h.2⟩
theorem owner_dec (n : Int) (w : World) : Calls Tryz.prog 29 #[.int .i64 n] w fun e w' =>
    (e = .returned (.bool true) ∧ (1 ≤ n ∧ n ≤ 99) ∧ w = w') ∨ (e = .returned (.bool false) ∧ ¬ (1 ≤ n ∧ n ≤ 99) ∧ w = w') :=
  (owner_any n w).mono fun e w' h => by
    by_cases c : 1 ≤ n ∧ n ≤ 99
    · exact .inl ⟨by rw [h.1]; simp [c.1, c.2], c, h.2⟩
    · exact .inr ⟨by rw [h.1]; simp <;> omega, c, h.2⟩
/-- Does a set have a sign? -/
def hasB (a : Int) (i : Nat) : Bool := band a (2 ^ i) != 0
theorem has_dec (a s : Int) (w : World) (h0 : 0 ≤ s) (h1 : s < 5) : Calls Tryz.prog 61 #[.int .i64 a, .int .i64 s] w fun e w' =>
    (e = .returned (.bool true) ∧ hasB a s.toNat = true ∧ w = w') ∨ (e = .returned (.bool false) ∧ hasB a s.toNat = false ∧ w = w') :=
  (has_any a s w h0 h1).mono fun e w' h => by
    cases c : hasB a s.toNat
    · exact .inr ⟨by rw [h.1]; unfold hasB at c; rw [c], rfl, h.2⟩
    · exact .inl ⟨by rw [h.1]; unfold hasB at c; rw [c], rfl, h.2⟩
end Go.Proofs.YtfhcofljlkihoaaGreatDoor

namespace Go.Proofs.YtfhcofljlkihoaaGreatDoor
open Go.RowKit
set_option maxHeartbeats 400000
set_option maxRecDepth 100000

/-- 1 if two sets have nothing in common. -/
def mis (a b : Int) : Int := if (band a b == 0) = true then 1 else 0
theorem mis_yes {a b : Int} (h : (band a b == 0) = true) : mis a b = 1 := by unfold mis; rw [if_pos h]
theorem mis_no {a b : Int} (h : (band a b == 0) = false) : mis a b = 0 := by unfold mis; rw [if_neg (by simp [h])]
theorem mis_bd (a b : Int) : 0 ≤ mis a b ∧ mis a b ≤ 1 := by unfold mis; split <;> omega
def dist6 (a0 a1 a2 a3 a4 a5 b0 b1 b2 b3 b4 b5 : Int) : Int := mis a0 b0 + mis a1 b1 + mis a2 b2 + mis a3 b3 + mis a4 b4 + mis a5 b5
/-- A sum of the first k. -/
def sumK (f : Nat → Int) : Nat → Int
  | 0 => 0
  | k + 1 => sumK f k + f k
theorem sumK_bd (f : Nat → Int) (h : ∀ j, 0 ≤ f j ∧ f j ≤ 1) (k : Nat) : 0 ≤ sumK f k ∧ sumK f k ≤ k := by
  induction k with
  | zero => exact ⟨Int.le_refl _, Int.le_refl _⟩
  | succ k ih => have := h k; unfold sumK; omega
/-- .. of the places at which two rows miss each other. -/
def distK (a0 a1 a2 a3 a4 a5 b0 b1 b2 b3 b4 b5 : Int) (k : Nat) : Int := sumK (fun j => mis (g6 a0 a1 a2 a3 a4 a5 j) (g6 b0 b1 b2 b3 b4 b5 j)) k
theorem distK_6 (a0 a1 a2 a3 a4 a5 b0 b1 b2 b3 b4 b5 : Int) : distK a0 a1 a2 a3 a4 a5 b0 b1 b2 b3 b4 b5 6 = dist6 a0 a1 a2 a3 a4 a5 b0 b1 b2 b3 b4 b5 := by
  show 0 + mis a0 b0 + mis a1 b1 + mis a2 b2 + mis a3 b3 + mis a4 b4 + mis a5 b5 = _
  unfold dist6; omega
theorem distK_bd (a0 a1 a2 a3 a4 a5 b0 b1 b2 b3 b4 b5 : Int) (k : Nat) : 0 ≤ distK a0 a1 a2 a3 a4 a5 b0 b1 b2 b3 b4 b5 k ∧ distK a0 a1 a2 a3 a4 a5 b0 b1 b2 b3 b4 b5 k ≤ k :=
  sumK_bd _ (fun _ => mis_bd _ _) k
theorem dist6_bd (a0 a1 a2 a3 a4 a5 b0 b1 b2 b3 b4 b5 : Int) : 0 ≤ dist6 a0 a1 a2 a3 a4 a5 b0 b1 b2 b3 b4 b5 ∧ dist6 a0 a1 a2 a3 a4 a5 b0 b1 b2 b3 b4 b5 ≤ 6 := by
  have := distK_bd a0 a1 a2 a3 a4 a5 b0 b1 b2 b3 b4 b5 6
  rw [distK_6] at this; exact this

theorem count_any (a0 a1 a2 a3 a4 a5 b0 b1 b2 b3 b4 b5 : Int) (w : World) :
    Calls Tryz.prog 73 #[.agg #[.int .i64 a0, .int .i64 a1, .int .i64 a2, .int .i64 a3, .int .i64 a4, .int .i64 a5], .agg #[.int .i64 b0, .int .i64 b1, .int .i64 b2, .int .i64 b3, .int .i64 b4, .int .i64 b5], .func (.func 74) #[] #[]] w fun e w' => 
      e = .returned (.int .i64 (dist6 a0 a1 a2 a3 a4 a5 b0 b1 b2 b3 b4 b5)) ∧ Below w.heap.size w w' := by
  go_enter Tryz.func73, Tryz.ntmps73
  go_wp2
  generalize hW : (World.alloc _ _) = W
  have HW : Hid (Below w.heap.size w W ∧ w.heap.size + 1 < W.heap.size) := by subst hW; exact ⟨by go_grown, by simp⟩
  have hs : w.heap.size + 1 < W.heap.size := HW.out.2
  have Ca : Hid (∀ j, W.cell? ⟨w.heap.size, j, none⟩ = [Value.int .i64 a0, .int .i64 a1, .int .i64 a2, .int .i64 a3, .int .i64 a4, .int .i64 a5][j]?) := by subst hW; intro j; simp [go_sem]
  have Cb : Hid (∀ j, W.cell? ⟨w.heap.size + 1, j, none⟩ = [Value.int .i64 b0, .int .i64 b1, .int .i64 b2, .int .i64 b3, .int .i64 b4, .int .i64 b5][j]?) := by subst hW; intro j; simp [go_sem]
  clear hW
  go_loopw [7, 9] (fun n i wr => ∃ (k : Nat) (z : Gr), k ≤ 6 ∧ i = .int .i64 k ∧ n = .int .i64 (distK a0 a1 a2 a3 a4 a5 b0 b1 b2 b3 b4 b5 k) ∧ wr = grow W z) (fun _ i _ => 6 - (intOf i).toNat)
  case atStart => exact ⟨0, ⟨#[], W.drawn⟩, by omega, rfl, rfl, by simp [grow]⟩
  case round =>
    obtain ⟨k, z, hk, rfl, rfl, rfl⟩ := hrel
    have hsz : w.heap.size + 1 < (grow W z).heap.size := by simp; omega
    have hd := distK_bd a0 a1 a2 a3 a4 a5 b0 b1 b2 b3 b4 b5 k
    by_cases hlt : k < 6
    · have ca := (Ca.out k).trans (at6n _ _ _ _ _ _ k hlt)
      have cb := (Cb.out k).trans (at6n _ _ _ _ _ _ k hlt)
      go_wp2
      refine wp_region_grow (by kernel_rfl) (by kernel_rfl) ?_
      repeat (go_big_quiet_step (exact quiet_grow rfl ((misses_any _ _ _).mono (fun e w' h => ⟨h.1, h.2 ▸ Below.refl _ _⟩))))
      refine wpQuiet_nil ?_
      intro z'
      obtain ⟨x, hx⟩ := grow_grow W z z'
      rw [hx]
      clear hx
      go_wp2
      all_goals
        refine ⟨⟨k + 1, x, by omega, by go_num, ?_, rfl⟩, by simp [intOf]; omega⟩
        refine congrArg (Value.int IntKind.i64) ?_
        show _ = distK a0 a1 a2 a3 a4 a5 b0 b1 b2 b3 b4 b5 k + mis (g6 a0 a1 a2 a3 a4 a5 k) (g6 b0 b1 b2 b3 b4 b5 k)
        first
          | (rw [mis_yes (by assumption)]; done)
          | (rw [mis_no (by assumption)]; omega)
    · obtain rfl : k = 6 := by omega
      go_wp2
      go_ret
      exact ⟨by rw [← distK_6]; rfl, (HW.out.1).trans ((grow_below W z).mono (by omega))⟩
def same6 (a0 a1 a2 a3 a4 a5 b0 b1 b2 b3 b4 b5 : Int) : Bool := a0 == b0 && a1 == b1 && a2 == b2 && a3 == b3 && a4 == b4 && a5 == b5

theorem eql_int3 (d : Nat) (a b : Int) (w : World) : (Op.equalIn (d + 1) 3 (.int .i64 a) (.int .i64 b)).run Tryz.prog w = .ok (a == b) w := by
  have h : Tryz.prog.underlying 3 = some (.int .i64) := by kernel_rfl
  simp [Op.equalIn, run_underlying h]

theorem part3 (cs : Array Value) (k : Nat) (w : World) (h : k < cs.size) : (part 3 cs k).run Tryz.prog w = .ok (cs.getD k undef) w :=
  run_part_plain (P := Tryz.prog) (w := w) (e := 3) (by kernel_rfl) (by simp [h])
theorem eql_arr6 (t : TypeId) (h : Tryz.prog.underlying t = some (.array 6 3)) (a0 a1 a2 a3 a4 a5 b0 b1 b2 b3 b4 b5 : Int) (w : World) : (Op.equalIn 10000 t (.agg #[.int .i64 a0, .int .i64 a1, .int .i64 a2, .int .i64 a3, .int .i64 a4, .int .i64 a5]) (.agg #[.int .i64 b0, .int .i64 b1, .int .i64 b2, .int .i64 b3, .int .i64 b4, .int .i64 b5])).run Tryz.prog w = .ok (same6 a0 a1 a2 a3 a4 a5 b0 b1 b2 b3 b4 b5) w := by
  have hs : ∀ w, (sizeOf 3).run Tryz.prog w = .ok 1 w := fun w => by kernel_rfl
  have e : ∀ x y, (Op.equalIn 9999 3 (.int .i64 x) (.int .i64 y)).run Tryz.prog w = .ok (x == y) w := fun x y => eql_int3 9998 x y w
  rw [show (10000 : Nat) = 9999 + 1 from rfl]
  unfold Op.equalIn
  simp only [Sem.run_bind, run_underlying h, Result.andThen_ok, hs]
  simp [Std.Legacy.Range.forIn_eq_forIn_range', Std.Legacy.Range.size, List.range'_succ, part3, e]
  unfold same6
  by_cases c0 : a0 = b0 <;> by_cases c1 : a1 = b1 <;> by_cases c2 : a2 = b2 <;> by_cases c3 : a3 = b3 <;> by_cases c4 : a4 = b4 <;> by_cases c5 : a5 = b5 <;> simp [c0, c1, c2, c3, c4, c5]
@[go_sem] theorem eql28 (a0 a1 a2 a3 a4 a5 b0 b1 b2 b3 b4 b5 : Int) (w : World) : (Op.equalIn 10000 39 (.agg #[.int .i64 a0, .int .i64 a1, .int .i64 a2, .int .i64 a3, .int .i64 a4, .int .i64 a5]) (.agg #[.int .i64 b0, .int .i64 b1, .int .i64 b2, .int .i64 b3, .int .i64 b4, .int .i64 b5])).run Tryz.prog w = .ok (same6 a0 a1 a2 a3 a4 a5 b0 b1 b2 b3 b4 b5) w := eql_arr6 39 (by kernel_rfl) _ _ _ _ _ _ _ _ _ _ _ _ w
@[go_sem] theorem eql31 (a0 a1 a2 a3 a4 a5 b0 b1 b2 b3 b4 b5 : Int) (w : World) : (Op.equalIn 10000 51 (.agg #[.int .i64 a0, .int .i64 a1, .int .i64 a2, .int .i64 a3, .int .i64 a4, .int .i64 a5]) (.agg #[.int .i64 b0, .int .i64 b1, .int .i64 b2, .int .i64 b3, .int .i64 b4, .int .i64 b5])).run Tryz.prog w = .ok (same6 a0 a1 a2 a3 a4 a5 b0 b1 b2 b3 b4 b5) w := eql_arr6 51 (by kernel_rfl) _ _ _ _ _ _ _ _ _ _ _ _ w
theorem same6_iff (a0 a1 a2 a3 a4 a5 b0 b1 b2 b3 b4 b5 : Int) : same6 a0 a1 a2 a3 a4 a5 b0 b1 b2 b3 b4 b5 = true ↔ a0 = b0 ∧ a1 = b1 ∧ a2 = b2 ∧ a3 = b3 ∧ a4 = b4 ∧ a5 = b5 := by
  unfold same6; simp [and_assoc]
/-- The distance of two marks under wear. -/
def wdist (w0 w1 w2 w3 w4 a0 a1 a2 a3 a4 a5 b0 b1 b2 b3 b4 b5 : Int) : Int :=
  dist6 (g5 w0 w1 w2 w3 w4 a0) (g5 w0 w1 w2 w3 w4 a1) (g5 w0 w1 w2 w3 w4 a2) (g5 w0 w1 w2 w3 w4 a3) (g5 w0 w1 w2 w3 w4 a4) (g5 w0 w1 w2 w3 w4 a5) (g5 w0 w1 w2 w3 w4 b0) (g5 w0 w1 w2 w3 w4 b1) (g5 w0 w1 w2 w3 w4 b2) (g5 w0 w1 w2 w3 w4 b3) (g5 w0 w1 w2 w3 w4 b4) (g5 w0 w1 w2 w3 w4 b5)
theorem wdist_bd (w0 w1 w2 w3 w4 a0 a1 a2 a3 a4 a5 b0 b1 b2 b3 b4 b5 : Int) : 0 ≤ wdist w0 w1 w2 w3 w4 a0 a1 a2 a3 a4 a5 b0 b1 b2 b3 b4 b5 ∧ wdist w0 w1 w2 w3 w4 a0 a1 a2 a3 a4 a5 b0 b1 b2 b3 b4 b5 ≤ 6 := dist6_bd _ _ _ _ _ _ _ _ _ _ _ _
/-- The cost of a mark and a reading under wear. -/
def wcost (w0 w1 w2 w3 w4 a0 a1 a2 a3 a4 a5 r0 r1 r2 r3 r4 r5 : Int) : Int :=
  dist6 (g5 w0 w1 w2 w3 w4 a0) (g5 w0 w1 w2 w3 w4 a1) (g5 w0 w1 w2 w3 w4 a2) (g5 w0 w1 w2 w3 w4 a3) (g5 w0 w1 w2 w3 w4 a4) (g5 w0 w1 w2 w3 w4 a5) r0 r1 r2 r3 r4 r5
theorem wcost_bd (w0 w1 w2 w3 w4 a0 a1 a2 a3 a4 a5 r0 r1 r2 r3 r4 r5 : Int) : 0 ≤ wcost w0 w1 w2 w3 w4 a0 a1 a2 a3 a4 a5 r0 r1 r2 r3 r4 r5 ∧ wcost w0 w1 w2 w3 w4 a0 a1 a2 a3 a4 a5 r0 r1 r2 r3 r4 r5 ≤ 6 := dist6_bd _ _ _ _ _ _ _ _ _ _ _ _
end Go.Proofs.YtfhcofljlkihoaaGreatDoor

namespace Go.Proofs.YtfhcofljlkihoaaGreatDoor
open Go.RowKit
set_option maxHeartbeats 400000
set_option maxRecDepth 100000

theorem false_any (a0 a1 a2 a3 a4 a5 b0 b1 b2 b3 b4 b5 : Int) (w : World) :
    Calls Tryz.prog 55 #[.agg #[.int .i64 a0, .int .i64 a1, .int .i64 a2, .int .i64 a3, .int .i64 a4, .int .i64 a5], .agg #[.int .i64 b0, .int .i64 b1, .int .i64 b2, .int .i64 b3, .int .i64 b4, .int .i64 b5]] w fun e w' => e = .returned (.int .i64 (dist6 a0 a1 a2 a3 a4 a5 b0 b1 b2 b3 b4 b5)) ∧ Below w.heap.size w w' := by
  go_enter Tryz.func55, Tryz.ntmps55
  go_wp2_with (go_at_call 73; refine (count_any a0 a1 a2 a3 a4 a5 b0 b1 b2 b3 b4 b5 _).mono ?_; rintro e w1 ⟨rfl, hb⟩)
  go_ret
  exact ⟨rfl, (show Below w.heap.size w _ by go_grown).trans (hb.mono (by simp; omega))⟩

theorem apart_no (w0 w1 w2 w3 w4 p a0 a1 a2 a3 a4 a5 b0 b1 b2 b3 b4 b5 : Int) (w : World) (hs : same6 a0 a1 a2 a3 a4 a5 b0 b1 b2 b3 b4 b5 = true) :
    Calls Tryz.prog 54 #[.agg #[.int .i64 w0, .int .i64 w1, .int .i64 w2, .int .i64 w3, .int .i64 w4], .int .i64 p, .agg #[.int .i64 a0, .int .i64 a1, .int .i64 a2, .int .i64 a3, .int .i64 a4, .int .i64 a5], .agg #[.int .i64 b0, .int .i64 b1, .int .i64 b2, .int .i64 b3, .int .i64 b4, .int .i64 b5]] w fun e w' => e = .returned (.bool false) ∧ Below w.heap.size w w' := by
  go_enter Tryz.func54, Tryz.ntmps54
  go_wp2
  refine wp_region_grow (by kernel_rfl) (by kernel_rfl) ?_
  repeat (go_big_quiet_step ((fail)))
  refine wpQuiet_nil ?_
  intro z
  go_wp2
  go_ret
  exact ⟨rfl, (show Below w.heap.size w _ by go_grown).trans ((grow_below _ z).mono (by simp; omega))⟩

theorem apart_yes (w0 w1 w2 w3 w4 p a0 a1 a2 a3 a4 a5 b0 b1 b2 b3 b4 b5 : Int) (w : World) (ha0 : 0 ≤ a0) (ka0 : a0 < 5) (ha1 : 0 ≤ a1) (ka1 : a1 < 5) (ha2 : 0 ≤ a2) (ka2 : a2 < 5) (ha3 : 0 ≤ a3) (ka3 : a3 < 5) (ha4 : 0 ≤ a4) (ka4 : a4 < 5) (ha5 : 0 ≤ a5) (ka5 : a5 < 5) (hb0 : 0 ≤ b0) (kb0 : b0 < 5) (hb1 : 0 ≤ b1) (kb1 : b1 < 5) (hb2 : 0 ≤ b2) (kb2 : b2 < 5) (hb3 : 0 ≤ b3) (kb3 : b3 < 5) (hb4 : 0 ≤ b4) (kb4 : b4 < 5) (hb5 : 0 ≤ b5) (kb5 : b5 < 5) (hp : 0 ≤ p) (hp2 : p ≤ 2) (hs : same6 a0 a1 a2 a3 a4 a5 b0 b1 b2 b3 b4 b5 = false) :
    Calls Tryz.prog 54 #[.agg #[.int .i64 w0, .int .i64 w1, .int .i64 w2, .int .i64 w3, .int .i64 w4], .int .i64 p, .agg #[.int .i64 a0, .int .i64 a1, .int .i64 a2, .int .i64 a3, .int .i64 a4, .int .i64 a5], .agg #[.int .i64 b0, .int .i64 b1, .int .i64 b2, .int .i64 b3, .int .i64 b4, .int .i64 b5]] w fun e w' => e = .returned (.bool (decide (2 * p < wdist w0 w1 w2 w3 w4 a0 a1 a2 a3 a4 a5 b0 b1 b2 b3 b4 b5))) ∧ Below w.heap.size w w' := by
  go_enter Tryz.func54, Tryz.ntmps54
  go_wp2
  refine wp_region_grow (by kernel_rfl) (by kernel_rfl) ?_
  repeat (go_big_quiet_step ((first | (go_at_call 51; exact quiet_grow rfl (wornRow_any _ _ _ _ _ _ _ _ _ _ _ _ (by assumption) (by assumption) (by assumption) (by assumption) (by assumption) (by assumption) (by assumption) (by assumption) (by assumption) (by assumption) (by assumption) (by assumption) )) | (go_at_call 55; exact quiet_grow rfl (false_any _ _ _ _ _ _ _ _ _ _ _ _ _)))))
  refine wpQuiet_nil ?_
  intro z
  go_wp2
  go_ret
  exact ⟨rfl, (show Below w.heap.size w _ by go_grown).trans ((grow_below _ z).mono (by simp; omega))⟩
end Go.Proofs.YtfhcofljlkihoaaGreatDoor

namespace Go.Proofs.YtfhcofljlkihoaaGreatDoor
open Go.RowKit
set_option maxHeartbeats 400000
set_option maxRecDepth 100000

/-- A given mark: its owner, its signs. -/
structure Giv where
  o : Int
  m0 : Int
  m1 : Int
  m2 : Int
  m3 : Int
  m4 : Int
  m5 : Int
instance : Inhabited Giv := ⟨⟨0, 0, 0, 0, 0, 0, 0⟩⟩
/-- The signs are signs. -/
def Giv.ok (g : Giv) : Prop := (0 ≤ g.m0 ∧ g.m0 < 5) ∧ (0 ≤ g.m1 ∧ g.m1 < 5) ∧ (0 ≤ g.m2 ∧ g.m2 < 5) ∧ (0 ≤ g.m3 ∧ g.m3 < 5) ∧ (0 ≤ g.m4 ∧ g.m4 < 5) ∧ (0 ≤ g.m5 ∧ g.m5 < 5)
/-- It lies there. -/
structure GivAt (w : World) (b o : Nat) (g : Giv) : Prop where
  c0 : w.cell? ⟨b, o, none⟩ = some (.int .i64 g.o)
  c1 : w.cell? ⟨b, o + 1, none⟩ = some (.int .i64 g.m0)
  c2 : w.cell? ⟨b, o + 2, none⟩ = some (.int .i64 g.m1)
  c3 : w.cell? ⟨b, o + 3, none⟩ = some (.int .i64 g.m2)
  c4 : w.cell? ⟨b, o + 4, none⟩ = some (.int .i64 g.m3)
  c5 : w.cell? ⟨b, o + 5, none⟩ = some (.int .i64 g.m4)
  c6 : w.cell? ⟨b, o + 6, none⟩ = some (.int .i64 g.m5)
/-- A slice holds these. -/
structure Gs (w : World) (A : Option Addr) (n : Nat) (gs : List Giv) : Prop where
  len : n = gs.length
  small : n < 9223372036854775807
  get : ∀ k (h : k < gs.length), ∃ b o, A = some ⟨b, o, none⟩ ∧ b < w.heap.size ∧ GivAt w b (o + k * 7) gs[k]

theorem GivAt.keep {w w' : World} {b o : Nat} {g : Giv} (h : GivAt w b o g) (hb : ∀ j, w'.cell? ⟨b, j, none⟩ = w.cell? ⟨b, j, none⟩) : GivAt w' b o g :=
  ⟨(hb _).trans h.c0, (hb _).trans h.c1, (hb _).trans h.c2, (hb _).trans h.c3, (hb _).trans h.c4, (hb _).trans h.c5, (hb _).trans h.c6⟩
theorem Gs.keep {w w' : World} {A : Option Addr} {n : Nat} {gs : List Giv} (h : Gs w A n gs) (hb : Below w.heap.size w w') : Gs w' A n gs :=
  ⟨h.len, h.small, fun k hk => by
    obtain ⟨b, o, e, hlt, hg⟩ := h.get k hk
    exact ⟨b, o, e, by have := hb.size; omega, hg.keep fun j => hb.cell (p := ⟨b, j, none⟩) hlt⟩⟩
theorem Gs.take {w : World} {A : Option Addr} {n : Nat} {gs : List Giv} (h : Gs w A n gs) (i : Nat) (hi : i ≤ n) : Gs w A i (gs.take i) := by
  have hl := h.len
  have hs := h.small
  refine ⟨by simp; omega, by omega, fun k hk => ?_⟩
  have hk' : k < gs.length := by simp at hk; omega
  obtain ⟨b, o, e, hlt, hg⟩ := h.get k hk'
  exact ⟨b, o, e, hlt, by rw [List.getElem_take]; exact hg⟩

/-- Are two marks apart? -/
def apartB (w0 w1 w2 w3 w4 p a0 a1 a2 a3 a4 a5 b0 b1 b2 b3 b4 b5 : Int) : Bool := !same6 a0 a1 a2 a3 a4 a5 b0 b1 b2 b3 b4 b5 && decide (2 * p < wdist w0 w1 w2 w3 w4 a0 a1 a2 a3 a4 a5 b0 b1 b2 b3 b4 b5)

theorem apart_any (w0 w1 w2 w3 w4 p a0 a1 a2 a3 a4 a5 b0 b1 b2 b3 b4 b5 : Int) (w : World) (ha0 : 0 ≤ a0) (ka0 : a0 < 5) (ha1 : 0 ≤ a1) (ka1 : a1 < 5) (ha2 : 0 ≤ a2) (ka2 : a2 < 5) (ha3 : 0 ≤ a3) (ka3 : a3 < 5) (ha4 : 0 ≤ a4) (ka4 : a4 < 5) (ha5 : 0 ≤ a5) (ka5 : a5 < 5) (hb0 : 0 ≤ b0) (kb0 : b0 < 5) (hb1 : 0 ≤ b1) (kb1 : b1 < 5) (hb2 : 0 ≤ b2) (kb2 : b2 < 5) (hb3 : 0 ≤ b3) (kb3 : b3 < 5) (hb4 : 0 ≤ b4) (kb4 : b4 < 5) (hb5 : 0 ≤ b5) (kb5 : b5 < 5) (hp : 0 ≤ p) (hp2 : p ≤ 2) :
    Calls Tryz.prog 54 #[.agg #[.int .i64 w0, .int .i64 w1, .int .i64 w2, .int .i64 w3, .int .i64 w4], .int .i64 p, .agg #[.int .i64 a0, .int .i64 a1, .int .i64 a2, .int .i64 a3, .int .i64 a4, .int .i64 a5], .agg #[.int .i64 b0, .int .i64 b1, .int .i64 b2, .int .i64 b3, .int .i64 b4, .int .i64 b5]] w fun e w' => e = .returned (.bool (apartB w0 w1 w2 w3 w4 p a0 a1 a2 a3 a4 a5 b0 b1 b2 b3 b4 b5)) ∧ Below w.heap.size w w' := by
  cases hs : same6 a0 a1 a2 a3 a4 a5 b0 b1 b2 b3 b4 b5
  · refine (apart_yes w0 w1 w2 w3 w4 p a0 a1 a2 a3 a4 a5 b0 b1 b2 b3 b4 b5 w ha0 ka0 ha1 ka1 ha2 ka2 ha3 ka3 ha4 ka4 ha5 ka5 hb0 kb0 hb1 kb1 hb2 kb2 hb3 kb3 hb4 kb4 hb5 kb5 hp hp2 hs).mono fun e w' h => ⟨?_, h.2⟩
    rw [h.1]; unfold apartB; rw [hs]; rfl
  · refine (apart_no w0 w1 w2 w3 w4 p a0 a1 a2 a3 a4 a5 b0 b1 b2 b3 b4 b5 w hs).mono fun e w' h => ⟨?_, h.2⟩
    rw [h.1]; unfold apartB; rw [hs]; rfl

def nearB (w0 w1 w2 w3 w4 p m0 m1 m2 m3 m4 m5 : Int) (gs : List Giv) : Bool := gs.any fun g => !apartB w0 w1 w2 w3 w4 p g.m0 g.m1 g.m2 g.m3 g.m4 g.m5 m0 m1 m2 m3 m4 m5

theorem near_any (w0 w1 w2 w3 w4 p m0 m1 m2 m3 m4 m5 : Int) (A : Option Addr) (n c : Nat) (gs : List Giv) (w : World) (hm0 : 0 ≤ m0) (km0 : m0 < 5) (hm1 : 0 ≤ m1) (km1 : m1 < 5) (hm2 : 0 ≤ m2) (km2 : m2 < 5) (hm3 : 0 ≤ m3) (km3 : m3 < 5) (hm4 : 0 ≤ m4) (km4 : m4 < 5) (hm5 : 0 ≤ m5) (km5 : m5 < 5) (hp : 0 ≤ p) (hp2 : p ≤ 2) (hg : Gs w A n gs) (hok : ∀ g ∈ gs, g.ok) :
    Calls Tryz.prog 31 #[.agg #[.int .i64 w0, .int .i64 w1, .int .i64 w2, .int .i64 w3, .int .i64 w4], .int .i64 p, .slice A n c, .agg #[.int .i64 m0, .int .i64 m1, .int .i64 m2, .int .i64 m3, .int .i64 m4, .int .i64 m5]] w fun e w' => e = .returned (.bool (nearB w0 w1 w2 w3 w4 p m0 m1 m2 m3 m4 m5 gs)) ∧ Below w.heap.size w w' := by
  have hn := hg.small
  have Hl : Hid (n = gs.length) := hg.len
  go_enter Tryz.func31, Tryz.ntmps31
  go_wp2
  generalize hW : (World.alloc _ _) = W
  have HW : Hid (Below w.heap.size w W) := Lib.hid (by subst hW; go_grown)
  have hs : w.heap.size + 1 < W.heap.size := by subst hW; simp
  have ca : ∀ j, W.cell? ⟨w.heap.size, j, none⟩ = [Value.int .i64 w0, Value.int .i64 w1, Value.int .i64 w2, Value.int .i64 w3, Value.int .i64 w4][j]? := by subst hW; intro j; simp [go_sem]
  have cb : ∀ j, W.cell? ⟨w.heap.size + 1, j, none⟩ = [Value.int .i64 m0, Value.int .i64 m1, Value.int .i64 m2, Value.int .i64 m3, Value.int .i64 m4, Value.int .i64 m5][j]? := by subst hW; intro j; simp [go_sem]
  clear hW
  have hg1 := hg.keep HW.out
  go_loopw [13] (fun i wr => ∃ (k : Nat) (z : Gr), k ≤ n ∧ i = .int .i64 k ∧ wr = grow W z ∧ (gs.take k).any (fun g => !apartB w0 w1 w2 w3 w4 p g.m0 g.m1 g.m2 g.m3 g.m4 g.m5 m0 m1 m2 m3 m4 m5) = false) (fun i _ => n - (intOf i).toNat)
  case atStart => exact ⟨0, ⟨#[], W.drawn⟩, by omega, rfl, by simp [grow], by simp⟩
  case round =>
    obtain ⟨k, z, hk, rfl, rfl, hany⟩ := hrel
    have Hany := Lib.hid hany; clear hany
    have hsz : w.heap.size + 1 < (grow W z).heap.size := by simp; omega
    by_cases hlt : k < n
    · obtain ⟨b, o, rfl, hb, hc⟩ := hg1.get k (by rw [← Hl.out]; exact hlt)
      obtain ⟨c0, c1, c2, c3, c4, c5, c6⟩ := hc
      obtain ⟨⟨p0, q0⟩, ⟨p1, q1⟩, ⟨p2, q2⟩, ⟨p3, q3⟩, ⟨p4, q4⟩, ⟨p5, q5⟩⟩ := hok _ (List.getElem_mem (l := gs) (by rw [← Hl.out]; exact hlt : k < gs.length))
      generalize hgk : gs[k]'(by rw [← Hl.out]; exact hlt) = g at *
      have Hgk := Lib.hid hgk; clear hgk
      have e1 : w.heap.size < W.heap.size + z.blocks.size := by omega
      have e2 : w.heap.size + 1 < W.heap.size + z.blocks.size := by omega
      have e3 : w.heap.size < W.heap.size + z.blocks.size + 1 := by omega
      have e4 : w.heap.size + 1 < W.heap.size + z.blocks.size + 1 := by omega
      have Hnx : Hid ((gs.take (k + 1)).any (fun g => !apartB w0 w1 w2 w3 w4 p g.m0 g.m1 g.m2 g.m3 g.m4 g.m5 m0 m1 m2 m3 m4 m5) = !apartB w0 w1 w2 w3 w4 p g.m0 g.m1 g.m2 g.m3 g.m4 g.m5 m0 m1 m2 m3 m4 m5) := by
        show _ = _
        rw [List.take_succ_eq_append_getElem (by rw [← Hl.out]; exact hlt), List.any_append, Hany.out, Hgk.out]; simp
      cases hap : apartB w0 w1 w2 w3 w4 p g.m0 g.m1 g.m2 g.m3 g.m4 g.m5 m0 m1 m2 m3 m4 m5
      all_goals
        have Hap := Lib.hid hap
        clear hap
        go_wp2_with (go_at_call 54; refine (apart_any _ _ _ _ _ _ _ _ _ _ _ _ _ _ _ _ _ _ _ (by assumption) (by assumption) (by assumption) (by assumption) (by assumption) (by assumption) (by assumption) (by assumption) (by assumption) (by assumption) (by assumption) (by assumption) hm0 km0 hm1 km1 hm2 km2 hm3 km3 hm4 km4 hm5 km5 hp hp2).mono ?_; rintro e x1 ⟨rfl, hb1⟩; rw [Hap.out])
      · go_ret
        refine ⟨?_, up HW.out (up (grow_below W z) (up (up_alloc _ _) hb1))⟩
        refine congrArg (fun b => Ending.returned (Value.bool b)) ?_
        have hm := List.getElem_mem (l := gs) (by rw [← Hl.out]; exact hlt : k < gs.length)
        rw [Hgk.out] at hm
        exact (List.any_eq_true.2 ⟨g, hm, by rw [Hap.out]; rfl⟩).symm
      · obtain ⟨y, rfl⟩ := below_grow (up (grow_below W z) (up (up_alloc _ _) hb1))
        refine ⟨⟨k + 1, y, by omega, by go_num, rfl, ?_⟩, by simp [intOf]; omega⟩
        rw [Hnx.out, Hap.out]; rfl
    · go_wp2
      go_ret
      refine ⟨?_, up HW.out (grow_below W z)⟩
      refine congrArg (fun b => Ending.returned (Value.bool b)) ?_
      obtain rfl : k = n := by omega
      have := Hany.out
      rw [Hl.out, List.take_length] at this
      exact this.symm
end Go.Proofs.YtfhcofljlkihoaaGreatDoor

namespace Go.Proofs.YtfhcofljlkihoaaGreatDoor
open Go.RowKit
set_option maxHeartbeats 400000
set_option maxRecDepth 100000

def sgB (s : Int) : Bool := decide (0 ≤ s) && decide (s < 5)
def okM (a0 a1 a2 a3 a4 a5 : Int) : Bool := sgB a0 && sgB a1 && sgB a2 && sgB a3 && sgB a4 && sgB a5
def rdB (s : Int) : Bool := decide (1 ≤ s) && decide (s ≤ 31)
def okR (a0 a1 a2 a3 a4 a5 : Int) : Bool := rdB a0 && rdB a1 && rdB a2 && rdB a3 && rdB a4 && rdB a5
def wrB (s : Int) (i : Nat) : Bool := decide (0 ≤ s) && decide (s ≤ 31) && hasB s i
def okW (a0 a1 a2 a3 a4 : Int) : Bool := wrB a0 0 && wrB a1 1 && wrB a2 2 && wrB a3 3 && wrB a4 4

/-- 0 if something holds, else a code. -/
def err (b : Bool) (n : Int) : Int := if b = true then 0 else n
theorem err_t {b : Bool} (n : Int) (h : b = true) : err b n = 0 := if_pos h
theorem err_f {b : Bool} (n : Int) (h : ¬ b = true) : err b n = n := if_neg h

theorem okM_iff (a0 a1 a2 a3 a4 a5 : Int) : okM a0 a1 a2 a3 a4 a5 = true ↔ (0 ≤ a0 ∧ a0 < 5) ∧ (0 ≤ a1 ∧ a1 < 5) ∧ (0 ≤ a2 ∧ a2 < 5) ∧ (0 ≤ a3 ∧ a3 < 5) ∧ (0 ≤ a4 ∧ a4 < 5) ∧ (0 ≤ a5 ∧ a5 < 5) := by
  simp [okM, sgB, and_assoc]

theorem checkMark_any (a0 a1 a2 a3 a4 a5 : Int) (w : World) :
    Calls Tryz.prog 30 #[.agg #[.int .i64 a0, .int .i64 a1, .int .i64 a2, .int .i64 a3, .int .i64 a4, .int .i64 a5]] w fun e w' => e = .returned (.int .i64 (err (okM a0 a1 a2 a3 a4 a5) 10)) ∧ Below w.heap.size w w' := by
  go_enter Tryz.func30, Tryz.ntmps30
  go_wp2
  refine wp_loop_rounds 7 ?_
  repeat any_goals (rw [rounds_succ]; go_wp2)
  all_goals
    go_ret
    refine ⟨congrArg (fun v => Ending.returned (Value.int .i64 v)) ?_, by go_grown⟩
    first
      | (rw [err_t _ (by simp [okM, sgB]; omega)]; done)
      | (rw [err_f _ (by simp [okM, sgB]; omega)]; done)

theorem refCheckMark_any (a0 a1 a2 a3 a4 a5 : Int) (w : World) :
    Calls Tryz.prog 35 #[.agg #[.int .i64 a0, .int .i64 a1, .int .i64 a2, .int .i64 a3, .int .i64 a4, .int .i64 a5]] w fun e w' => e = .returned (.int .i64 (err (okM a0 a1 a2 a3 a4 a5) 10)) ∧ Below w.heap.size w w' := by
  go_enter Tryz.func35, Tryz.ntmps35
  go_wp2
  refine wp_loop_rounds 7 ?_
  repeat any_goals (rw [rounds_succ]; go_wp2_with (go_at_call 34; refine (in_dec _ _ _ _).mono ?_; rintro e x1 (⟨rfl, hi, rfl⟩ | ⟨rfl, hi, rfl⟩)))
  all_goals
    go_ret
    refine ⟨congrArg (fun v => Ending.returned (Value.int .i64 v)) ?_, by go_grown⟩
    first
      | (rw [err_t _ (by simp [okM, sgB]; omega)]; done)
      | (rw [err_f _ (by simp [okM, sgB]; omega)]; done)

theorem checkReading_any (a0 a1 a2 a3 a4 a5 : Int) (w : World) :
    Calls Tryz.prog 43 #[.agg #[.int .i64 a0, .int .i64 a1, .int .i64 a2, .int .i64 a3, .int .i64 a4, .int .i64 a5]] w fun e w' => e = .returned (.int .i64 (err (okR a0 a1 a2 a3 a4 a5) 12)) ∧ Below w.heap.size w w' := by
  go_enter Tryz.func43, Tryz.ntmps43
  go_wp2
  refine wp_loop_rounds 7 ?_
  repeat any_goals (rw [rounds_succ]; go_wp2_with (go_at_call 60; refine (valid_dec _ _).mono ?_; rintro e x1 (⟨rfl, hi, rfl⟩ | ⟨rfl, hi, rfl⟩)))
  all_goals
    go_ret
    refine ⟨congrArg (fun v => Ending.returned (Value.int .i64 v)) ?_, by go_grown⟩
    try simp only [beq_iff_eq, beq_eq_false_iff_ne] at *
    first
      | (rw [err_t _ (by simp [okR, rdB]; omega)]; done)
      | (rw [err_f _ (by simp [okR, rdB]; omega)]; done)

end Go.Proofs.YtfhcofljlkihoaaGreatDoor

namespace Go.Proofs.YtfhcofljlkihoaaGreatDoor
open Go.RowKit
set_option maxHeartbeats 400000
set_option maxRecDepth 100000

theorem checkWear_any (a0 a1 a2 a3 a4 : Int) (w : World) :
    Calls Tryz.prog 27 #[.agg #[.int .i64 a0, .int .i64 a1, .int .i64 a2, .int .i64 a3, .int .i64 a4]] w fun e w' => e = .returned (.int .i64 (err (okW a0 a1 a2 a3 a4) 11)) ∧ Below w.heap.size w w' := by
  go_enter Tryz.func27, Tryz.ntmps27
  go_wp2
  refine wp_loop_rounds 6 ?_
  repeat any_goals (rw [rounds_succ]; go_wp2_with (first | (go_at_call 60; refine (valid_dec _ _).mono ?_; rintro e x1 (⟨rfl, hi, rfl⟩ | ⟨rfl, hi, rfl⟩)) | (go_at_call 61; refine (has_dec _ _ _ (by decide) (by decide)).mono ?_; rintro e x1 (⟨rfl, hh, rfl⟩ | ⟨rfl, hh, rfl⟩))))
  all_goals
    go_ret
    refine ⟨congrArg (fun v => Ending.returned (Value.int .i64 v)) ?_, by go_grown⟩
    go_tidy
    first
      | (rw [err_t]; simp_all [okW, wrB]; done)
      | (rw [err_f]; simp_all [okW, wrB]; done)
      | (rw [err_f]; simp_all [okW, wrB]; intros; omega)

theorem p2n (k : Nat) (h : k < 5) : wrap64 ((2 : Int) ^ k) = 2 ^ k := by
  rcases (by omega : k = 0 ∨ k = 1 ∨ k = 2 ∨ k = 3 ∨ k = 4) with rfl | rfl | rfl | rfl | rfl <;> simp [wrap64]
/-- The first k. -/
def allK (f : Nat → Bool) : Nat → Bool
  | 0 => true
  | k + 1 => allK f k && f k
theorem allK_no (f : Nat → Bool) (k : Nat) (h : f k = false) : ∀ n, k < n → allK f n = false := by
  intro n
  induction n with
  | zero => intro h; omega
  | succ n ih =>
    intro hk
    unfold allK
    by_cases e : k = n
    · subst e; rw [h]; simp
    · rw [ih (by omega)]; rfl
def wrK (a0 a1 a2 a3 a4 : Int) (k : Nat) : Bool := wrB (g5 a0 a1 a2 a3 a4 k) k
theorem okW_allK (a0 a1 a2 a3 a4 : Int) : okW a0 a1 a2 a3 a4 = allK (wrK a0 a1 a2 a3 a4) 5 := by
  show _ = (((((true && wrB a0 0) && wrB a1 1) && wrB a2 2) && wrB a3 3) && wrB a4 4)
  simp [okW]

theorem refCheckWear_any (a0 a1 a2 a3 a4 : Int) (w : World) :
    Calls Tryz.prog 33 #[.agg #[.int .i64 a0, .int .i64 a1, .int .i64 a2, .int .i64 a3, .int .i64 a4]] w fun e w' => e = .returned (.int .i64 (err (okW a0 a1 a2 a3 a4) 11)) ∧ Below w.heap.size w w' := by
  go_enter Tryz.func33, Tryz.ntmps33
  go_wp2
  generalize hW : (World.alloc _ _) = W
  have HW : Hid (Below w.heap.size w W) := Lib.hid (by subst hW; go_grown)
  have hs : w.heap.size < W.heap.size := by subst hW; simp
  have Ca : Hid (∀ j, W.cell? ⟨w.heap.size, j, none⟩ = [Value.int .i64 a0, Value.int .i64 a1, Value.int .i64 a2, Value.int .i64 a3, Value.int .i64 a4][j]?) := Lib.hid (by subst hW; intro j; simp [go_sem])
  clear hW
  go_loopw [3] (fun i wr => ∃ (k : Nat) (z : Gr), k ≤ 5 ∧ i = .int .i64 k ∧ wr = grow W z ∧ allK (wrK a0 a1 a2 a3 a4) k = true) (fun i _ => 5 - (intOf i).toNat)
  case atStart => exact ⟨0, ⟨#[], W.drawn⟩, by omega, rfl, by simp [grow], rfl⟩
  case round =>
    obtain ⟨k, z, hk, rfl, rfl, hall⟩ := hrel
    have Hall := Lib.hid hall; clear hall
    have e1 : w.heap.size < W.heap.size + z.blocks.size := by omega
    have hsz : w.heap.size < (grow W z).heap.size := by simp; omega
    by_cases hlt : k < 5
    · have ca := (Ca.out k).trans (at5n _ _ _ _ _ k hlt)
      have Hw : Hid (wrK a0 a1 a2 a3 a4 k = (decide (0 ≤ g5 a0 a1 a2 a3 a4 k) && decide (g5 a0 a1 a2 a3 a4 k ≤ 31) && hasB (g5 a0 a1 a2 a3 a4 k) k)) := Lib.hid rfl
      have Hf := Lib.hid (fun h => allK_no (wrK a0 a1 a2 a3 a4) k h 5 hlt)
      generalize hx : g5 a0 a1 a2 a3 a4 k = x at *
      have Hx := Lib.hid hx; clear hx
      by_cases hin : 0 ≤ x ∧ x ≤ 31
      · have hp := p2n k hlt
        have hin1 := hin.1
        have hin2 := hin.2
        go_wp2
        refine wp_region_grow (by kernel_rfl) (by kernel_rfl) ?_
        repeat (go_big_quiet_step ((exact quiet_grow rfl (in_yes _ _ _ _ hin))))
        refine wpQuiet_nil ?_
        intro z'
        obtain ⟨y, hy⟩ := grow_grow W z z'
        rw [hy]
        clear hy hp
        cases hb : hasB x k
        · have hb1 : (bits BinOp.and IntKind.i64 x (2 ^ k) == 0) = true := by
            have : (bits BinOp.and IntKind.i64 x (2 ^ k) != 0) = false := hb
            simpa [bne] using this
          have Hb := Lib.hid hb
          clear hb
          go_wp2
          go_ret
          refine ⟨congrArg (fun v => Ending.returned (Value.int .i64 v)) ?_, up HW.out (grow_below W y)⟩
          rw [okW_allK, Hf.out (by rw [Hw.out, Hb.out]; simp)]; rfl
        · have hb1 : (bits BinOp.and IntKind.i64 x (2 ^ k) == 0) = false := by
            have : (bits BinOp.and IntKind.i64 x (2 ^ k) != 0) = true := hb
            simpa [bne] using this
          have Hb := Lib.hid hb
          clear hb
          go_wp2
          refine ⟨⟨k + 1, y, by omega, by go_num, rfl, ?_⟩, by simp [intOf]; omega⟩
          show (allK (wrK a0 a1 a2 a3 a4) k && wrK a0 a1 a2 a3 a4 k) = true
          rw [Hall.out, Hw.out, Hb.out]; simp [hin.1, hin.2]
      · have Hin := Lib.hid hin
        go_wp2
        refine wp_region_grow (by kernel_rfl) (by kernel_rfl) ?_
        repeat (go_big_quiet_step ((exact quiet_grow rfl (in_no _ _ _ _ Hin.out))))
        refine wpQuiet_nil ?_
        intro z'
        obtain ⟨y, hy⟩ := grow_grow W z z'
        rw [hy]
        clear hy
        go_wp2
        go_ret
        refine ⟨congrArg (fun v => Ending.returned (Value.int .i64 v)) ?_, up HW.out (grow_below W y)⟩
        rw [okW_allK, Hf.out (by rw [Hw.out]; simp; intros; omega)]; rfl
    · obtain rfl : k = 5 := by omega
      go_wp2
      go_ret
      refine ⟨congrArg (fun v => Ending.returned (Value.int .i64 v)) ?_, up HW.out (grow_below W z)⟩
      rw [okW_allK, Hall.out]; rfl
end Go.Proofs.YtfhcofljlkihoaaGreatDoor

namespace Go.Proofs.YtfhcofljlkihoaaGreatDoor
open Go.RowKit
set_option maxHeartbeats 400000
set_option maxRecDepth 100000

theorem refDistance_any (w0 w1 w2 w3 w4 a0 a1 a2 a3 a4 a5 b0 b1 b2 b3 b4 b5 : Int) (w : World) (ha0 : 0 ≤ a0) (ka0 : a0 < 5) (ha1 : 0 ≤ a1) (ka1 : a1 < 5) (ha2 : 0 ≤ a2) (ka2 : a2 < 5) (ha3 : 0 ≤ a3) (ka3 : a3 < 5) (ha4 : 0 ≤ a4) (ka4 : a4 < 5) (ha5 : 0 ≤ a5) (ka5 : a5 < 5) (hb0 : 0 ≤ b0) (kb0 : b0 < 5) (hb1 : 0 ≤ b1) (kb1 : b1 < 5) (hb2 : 0 ≤ b2) (kb2 : b2 < 5) (hb3 : 0 ≤ b3) (kb3 : b3 < 5) (hb4 : 0 ≤ b4) (kb4 : b4 < 5) (hb5 : 0 ≤ b5) (kb5 : b5 < 5) :
    Calls Tryz.prog 36 #[.agg #[.int .i64 w0, .int .i64 w1, .int .i64 w2, .int .i64 w3, .int .i64 w4], .agg #[.int .i64 a0, .int .i64 a1, .int .i64 a2, .int .i64 a3, .int .i64 a4, .int .i64 a5], .agg #[.int .i64 b0, .int .i64 b1, .int .i64 b2, .int .i64 b3, .int .i64 b4, .int .i64 b5]] w fun e w' => e = .returned (.int .i64 (wdist w0 w1 w2 w3 w4 a0 a1 a2 a3 a4 a5 b0 b1 b2 b3 b4 b5)) ∧ Below w.heap.size w w' := by
  go_enter Tryz.func36, Tryz.ntmps36
  go_wp2
  generalize hW : (World.alloc _ _) = W
  have HW : Hid (Below w.heap.size w W) := Lib.hid (by subst hW; go_grown)
  have hs : w.heap.size + 2 < W.heap.size := by subst hW; simp
  have cw : ∀ j, W.cell? ⟨w.heap.size, j, none⟩ = [Value.int .i64 w0, Value.int .i64 w1, Value.int .i64 w2, Value.int .i64 w3, Value.int .i64 w4][j]? := by subst hW; intro j; simp [go_sem]
  have Ca : Hid (∀ j, W.cell? ⟨w.heap.size + 1, j, none⟩ = [Value.int .i64 a0, Value.int .i64 a1, Value.int .i64 a2, Value.int .i64 a3, Value.int .i64 a4, Value.int .i64 a5][j]?) := Lib.hid (by subst hW; intro j; simp [go_sem])
  have Cb : Hid (∀ j, W.cell? ⟨w.heap.size + 1 + 1, j, none⟩ = [Value.int .i64 b0, Value.int .i64 b1, Value.int .i64 b2, Value.int .i64 b3, Value.int .i64 b4, Value.int .i64 b5][j]?) := Lib.hid (by subst hW; intro j; simp [go_sem])
  clear hW
  go_loopw [7, 8] (fun n i wr => ∃ (k : Nat) (z : Gr), k ≤ 6 ∧ i = .int .i64 k ∧ n = .int .i64 (distK (g5 w0 w1 w2 w3 w4 a0) (g5 w0 w1 w2 w3 w4 a1) (g5 w0 w1 w2 w3 w4 a2) (g5 w0 w1 w2 w3 w4 a3) (g5 w0 w1 w2 w3 w4 a4) (g5 w0 w1 w2 w3 w4 a5) (g5 w0 w1 w2 w3 w4 b0) (g5 w0 w1 w2 w3 w4 b1) (g5 w0 w1 w2 w3 w4 b2) (g5 w0 w1 w2 w3 w4 b3) (g5 w0 w1 w2 w3 w4 b4) (g5 w0 w1 w2 w3 w4 b5) k) ∧ wr = grow W z) (fun _ i _ => 6 - (intOf i).toNat)
  case atStart => exact ⟨0, ⟨#[], W.drawn⟩, by omega, rfl, rfl, by simp [grow]⟩
  case round =>
    obtain ⟨k, z, hk, rfl, rfl, rfl⟩ := hrel
    have hsz : w.heap.size + 2 < (grow W z).heap.size := by simp; omega
    by_cases hlt : k < 6
    · have ca := (Ca.out k).trans (at6n _ _ _ _ _ _ k hlt)
      have cb := (Cb.out k).trans (at6n _ _ _ _ _ _ k hlt)
      have Hstep : Hid (distK (g5 w0 w1 w2 w3 w4 a0) (g5 w0 w1 w2 w3 w4 a1) (g5 w0 w1 w2 w3 w4 a2) (g5 w0 w1 w2 w3 w4 a3) (g5 w0 w1 w2 w3 w4 a4) (g5 w0 w1 w2 w3 w4 a5) (g5 w0 w1 w2 w3 w4 b0) (g5 w0 w1 w2 w3 w4 b1) (g5 w0 w1 w2 w3 w4 b2) (g5 w0 w1 w2 w3 w4 b3) (g5 w0 w1 w2 w3 w4 b4) (g5 w0 w1 w2 w3 w4 b5) (k + 1) =
          distK (g5 w0 w1 w2 w3 w4 a0) (g5 w0 w1 w2 w3 w4 a1) (g5 w0 w1 w2 w3 w4 a2) (g5 w0 w1 w2 w3 w4 a3) (g5 w0 w1 w2 w3 w4 a4) (g5 w0 w1 w2 w3 w4 a5) (g5 w0 w1 w2 w3 w4 b0) (g5 w0 w1 w2 w3 w4 b1) (g5 w0 w1 w2 w3 w4 b2) (g5 w0 w1 w2 w3 w4 b3) (g5 w0 w1 w2 w3 w4 b4) (g5 w0 w1 w2 w3 w4 b5) k + mis (g5 w0 w1 w2 w3 w4 (g6 a0 a1 a2 a3 a4 a5 k)) (g5 w0 w1 w2 w3 w4 (g6 b0 b1 b2 b3 b4 b5 k))) := Lib.hid (by
        rcases (by omega : k = 0 ∨ k = 1 ∨ k = 2 ∨ k = 3 ∨ k = 4 ∨ k = 5) with rfl | rfl | rfl | rfl | rfl | rfl <;> rfl)
      have ba : 0 ≤ g6 a0 a1 a2 a3 a4 a5 k ∧ g6 a0 a1 a2 a3 a4 a5 k < 5 := by
        rcases (by omega : k = 0 ∨ k = 1 ∨ k = 2 ∨ k = 3 ∨ k = 4 ∨ k = 5) with rfl | rfl | rfl | rfl | rfl | rfl <;> exact ⟨by assumption, by assumption⟩
      have bb : 0 ≤ g6 b0 b1 b2 b3 b4 b5 k ∧ g6 b0 b1 b2 b3 b4 b5 k < 5 := by
        rcases (by omega : k = 0 ∨ k = 1 ∨ k = 2 ∨ k = 3 ∨ k = 4 ∨ k = 5) with rfl | rfl | rfl | rfl | rfl | rfl <;> exact ⟨by assumption, by assumption⟩
      have hd := distK_bd (g5 w0 w1 w2 w3 w4 a0) (g5 w0 w1 w2 w3 w4 a1) (g5 w0 w1 w2 w3 w4 a2) (g5 w0 w1 w2 w3 w4 a3) (g5 w0 w1 w2 w3 w4 a4) (g5 w0 w1 w2 w3 w4 a5) (g5 w0 w1 w2 w3 w4 b0) (g5 w0 w1 w2 w3 w4 b1) (g5 w0 w1 w2 w3 w4 b2) (g5 w0 w1 w2 w3 w4 b3) (g5 w0 w1 w2 w3 w4 b4) (g5 w0 w1 w2 w3 w4 b5) k
      generalize distK (g5 w0 w1 w2 w3 w4 a0) (g5 w0 w1 w2 w3 w4 a1) (g5 w0 w1 w2 w3 w4 a2) (g5 w0 w1 w2 w3 w4 a3) (g5 w0 w1 w2 w3 w4 a4) (g5 w0 w1 w2 w3 w4 a5) (g5 w0 w1 w2 w3 w4 b0) (g5 w0 w1 w2 w3 w4 b1) (g5 w0 w1 w2 w3 w4 b2) (g5 w0 w1 w2 w3 w4 b3) (g5 w0 w1 w2 w3 w4 b4) (g5 w0 w1 w2 w3 w4 b5) k = d at *
      obtain ⟨p1, p2⟩ := ba
      obtain ⟨q1, q2⟩ := bb
      generalize g6 a0 a1 a2 a3 a4 a5 k = x at *
      generalize g6 b0 b1 b2 b3 b4 b5 k = y at *
      go_wp2
      refine wp_region_grow (by kernel_rfl) (by kernel_rfl) ?_
      repeat (go_big_quiet_step ((fail)))
      refine wpQuiet_nil ?_
      intro z'
      obtain ⟨v, hv⟩ := grow_grow W z z'
      rw [hv]
      clear hv
      go_wp2
      all_goals
        refine ⟨⟨k + 1, v, by omega, by go_num, ?_, rfl⟩, by simp [intOf]; omega⟩
        refine congrArg (Value.int IntKind.i64) ?_
        rw [Hstep.out]
        first
          | (rw [mis_yes (by assumption)]; done)
          | (rw [mis_no (by assumption)]; omega)
    · obtain rfl : k = 6 := by omega
      go_wp2
      go_ret
      exact ⟨by rw [distK_6]; rfl, up HW.out (grow_below W z)⟩
end Go.Proofs.YtfhcofljlkihoaaGreatDoor

namespace Go.Proofs.YtfhcofljlkihoaaGreatDoor
open Go.RowKit
set_option maxHeartbeats 400000
set_option maxRecDepth 100000

def Giv.okB (g : Giv) : Bool := okM g.m0 g.m1 g.m2 g.m3 g.m4 g.m5
theorem Giv.ok_of {g : Giv} (h : g.okB = true) : g.ok := (okM_iff _ _ _ _ _ _).1 h
/-- The owner ahead of number k. -/
def lastO (gs : List Giv) (k : Nat) : Int := match k with | 0 => 0 | k + 1 => (gs.getD k default).o
/-- Number k is as it must be. -/
def okAt (w0 w1 w2 w3 w4 F : Int) (gs : List Giv) (k : Nat) : Bool :=
  match gs[k]? with
  | none => true
  | some g => decide (lastO gs k < g.o) && (decide (1 ≤ g.o) && decide (g.o ≤ 99)) && g.okB && !nearB w0 w1 w2 w3 w4 F g.m0 g.m1 g.m2 g.m3 g.m4 g.m5 (gs.take k)
def okB (w0 w1 w2 w3 w4 F : Int) (gs : List Giv) : Bool :=
  okW w0 w1 w2 w3 w4 && (decide (0 ≤ F) && decide (F ≤ 2)) && decide (gs.length ≤ 40) && allK (okAt w0 w1 w2 w3 w4 F gs) gs.length

theorem okAt_some {w0 w1 w2 w3 w4 F : Int} {gs : List Giv} {k : Nat} {g : Giv} (h : gs[k]? = some g) :
    okAt w0 w1 w2 w3 w4 F gs k = (decide (lastO gs k < g.o) && (decide (1 ≤ g.o) && decide (g.o ≤ 99)) && g.okB && !nearB w0 w1 w2 w3 w4 F g.m0 g.m1 g.m2 g.m3 g.m4 g.m5 (gs.take k)) := by
  unfold okAt; rw [h]
theorem allK_at {f : Nat → Bool} {n : Nat} (h : allK f n = true) : ∀ k, k < n → f k = true := by
  intro k hk
  cases e : f k
  · rw [allK_no f k e n hk] at h; cases h
  · rfl
/-- All marks ahead are valid. -/
theorem ok_take {w0 w1 w2 w3 w4 F : Int} {gs : List Giv} {k : Nat} (h : allK (okAt w0 w1 w2 w3 w4 F gs) k = true) : ∀ g ∈ gs.take k, g.ok := by
  intro g hg
  obtain ⟨j, hj, rfl⟩ := List.getElem_of_mem hg
  have hj2 : j < k ∧ j < gs.length := by simp at hj; omega
  have h1 := allK_at h j hj2.1
  rw [okAt_some (List.getElem?_eq_getElem hj2.2)] at h1
  simp only [Bool.and_eq_true] at h1
  rw [List.getElem_take]
  exact Giv.ok_of h1.1.2

theorem checkWear_yes (a0 a1 a2 a3 a4 : Int) (w : World) (h : okW a0 a1 a2 a3 a4 = true) : Calls Tryz.prog 27 #[.agg #[.int .i64 a0, .int .i64 a1, .int .i64 a2, .int .i64 a3, .int .i64 a4]] w fun e w' => e = .returned (.int .i64 0) ∧ Below w.heap.size w w' :=
  (checkWear_any _ _ _ _ _ w).mono fun e w' g => ⟨by rw [g.1, err_t _ h], g.2⟩
theorem checkWear_no (a0 a1 a2 a3 a4 : Int) (w : World) (h : okW a0 a1 a2 a3 a4 = false) : Calls Tryz.prog 27 #[.agg #[.int .i64 a0, .int .i64 a1, .int .i64 a2, .int .i64 a3, .int .i64 a4]] w fun e w' => e = .returned (.int .i64 11) ∧ Below w.heap.size w w' :=
  (checkWear_any _ _ _ _ _ w).mono fun e w' g => ⟨by rw [g.1, err_f _ (by rw [h]; simp)], g.2⟩
theorem checkMark_yes (a0 a1 a2 a3 a4 a5 : Int) (w : World) (h : okM a0 a1 a2 a3 a4 a5 = true) : Calls Tryz.prog 30 #[.agg #[.int .i64 a0, .int .i64 a1, .int .i64 a2, .int .i64 a3, .int .i64 a4, .int .i64 a5]] w fun e w' => e = .returned (.int .i64 0) ∧ Below w.heap.size w w' :=
  (checkMark_any _ _ _ _ _ _ w).mono fun e w' g => ⟨by rw [g.1, err_t _ h], g.2⟩
theorem checkMark_no (a0 a1 a2 a3 a4 a5 : Int) (w : World) (h : okM a0 a1 a2 a3 a4 a5 = false) : Calls Tryz.prog 30 #[.agg #[.int .i64 a0, .int .i64 a1, .int .i64 a2, .int .i64 a3, .int .i64 a4, .int .i64 a5]] w fun e w' => e = .returned (.int .i64 10) ∧ Below w.heap.size w w' :=
  (checkMark_any _ _ _ _ _ _ w).mono fun e w' g => ⟨by rw [g.1, err_f _ (by rw [h]; simp)], g.2⟩

theorem check_any (w0 w1 w2 w3 w4 F : Int) (A : Option Addr) (n c : Nat) (gs : List Giv) (w : World) (hg : Gs w A n gs) (hnc : n ≤ c) :
    Calls Tryz.prog 10 #[.agg #[.int .i64 w0, .int .i64 w1, .int .i64 w2, .int .i64 w3, .int .i64 w4, .int .i64 F, .slice A n c]] w fun e w' => e = .returned (.int .i64 (err (okB w0 w1 w2 w3 w4 F gs) 13)) ∧ Below w.heap.size w w' := by
  have hn := hg.small
  have Hl : Hid (n = gs.length) := Lib.hid hg.len
  go_enter Tryz.func10, Tryz.ntmps10
  go_wp2_with fail
  generalize hW : (World.alloc _ _) = W
  have HW : Hid (Below w.heap.size w W) := Lib.hid (by subst hW; go_grown)
  have hs : w.heap.size < W.heap.size := by subst hW; simp
  have cm : ∀ j, W.cell? ⟨w.heap.size, j, none⟩ = [Value.int .i64 w0, .int .i64 w1, .int .i64 w2, .int .i64 w3, .int .i64 w4, .int .i64 F, .slice A n c][j]? := by subst hW; intro j; simp [go_sem]
  clear hW
  cases hw : okW w0 w1 w2 w3 w4
  · refine (checkWear_no w0 w1 w2 w3 w4 W hw).mono ?_
    rintro e x1 ⟨rfl, hb1⟩
    obtain ⟨z, rfl⟩ := below_grow hb1
    have Hw := Lib.hid hw
    clear hw
    go_wp2
    go_ret
    refine ⟨congrArg (fun v => Ending.returned (Value.int .i64 v)) ?_, up HW.out (grow_below W z)⟩
    rw [err_f]; unfold okB; rw [Hw.out]; simp
  refine (checkWear_yes w0 w1 w2 w3 w4 W hw).mono ?_
  rintro e x1 ⟨rfl, hb1⟩
  obtain ⟨z0, rfl⟩ := below_grow hb1
  have Hw := Lib.hid hw
  clear hw hb1
  by_cases hF : 0 ≤ F ∧ F ≤ 2
  rotate_left
  · go_wp2_with (go_at_call 28; refine (places_dec _ _).mono ?_; rintro e x1 (⟨rfl, hi, rfl⟩ | ⟨rfl, hi, rfl⟩))
    · exact absurd hi hF
    · go_ret
      refine ⟨congrArg (fun v => Ending.returned (Value.int .i64 v)) ?_, up HW.out (grow_below W z0)⟩
      rw [err_f]; unfold okB; simp; intros; omega
  obtain ⟨hF0, hF2⟩ := hF
  by_cases h40 : 40 < n
  · go_wp2_with (go_at_call 28; refine (places_dec _ _).mono ?_; rintro e x1 (⟨rfl, hi, rfl⟩ | ⟨rfl, hi, rfl⟩))
    · go_ret
      refine ⟨congrArg (fun v => Ending.returned (Value.int .i64 v)) ?_, up HW.out (grow_below W z0)⟩
      rw [err_f]; unfold okB; rw [← Hl.out]; simp; intros; omega
    · exact absurd ⟨hF0, hF2⟩ hi
  go_wp2_with (go_at_call 28; refine (places_dec _ _).mono ?_; rintro e x1 (⟨rfl, hi, rfl⟩ | ⟨rfl, hi, rfl⟩))
  rotate_left
  · exact absurd ⟨hF0, hF2⟩ hi
  clear hi
  have hg1 := hg.keep HW.out
  go_loopw [3, 25] (fun l i wr => ∃ (k : Nat) (z : Gr), k ≤ n ∧ i = .int .i64 k ∧ l = .int .i64 (lastO gs k) ∧ wr = grow W z ∧ allK (okAt w0 w1 w2 w3 w4 F gs) k = true) (fun _ i _ => n - (intOf i).toNat)
  case atStart => exact ⟨0, z0, by omega, rfl, rfl, rfl, rfl⟩
  case round =>
    obtain ⟨k, z, hk, rfl, rfl, rfl, hall⟩ := hrel
    have e1 : w.heap.size < W.heap.size + z.blocks.size := by omega
    have e3 : w.heap.size < W.heap.size + z.blocks.size + 1 := by omega
    have hsz : w.heap.size < (grow W z).heap.size := by simp; omega
    by_cases hlt : k < n
    · have hkl : k < gs.length := by rw [← Hl.out]; exact hlt
      have hga : gs[k]? = some gs[k] := List.getElem?_eq_getElem hkl
      have Hat := Lib.hid (okAt_some (w0 := w0) (w1 := w1) (w2 := w2) (w3 := w3) (w4 := w4) (F := F) hga)
      have Hno := Lib.hid (fun h => allK_no (okAt w0 w1 w2 w3 w4 F gs) k h gs.length hkl)
      have hok := ok_take hall
      have hgt := hg1.take k hk
      have Hnx : Hid (lastO gs (k + 1) = gs[k].o) := Lib.hid (by show (gs.getD k default).o = _; simp [hkl])
      obtain ⟨b, o, rfl, hb, hc⟩ := hg1.get k hkl
      obtain ⟨c0, c1, c2, c3, c4, c5, c6⟩ := hc
      have Hall := Lib.hid hall
      generalize gs[k] = g at *
      generalize lastO gs k = L at *
      have Hgt := Lib.hid hgt
      have Hok := Lib.hid hok
      have Hga := Lib.hid hga
      clear hall hga hgt hok
      have fin : ∀ (x1 : World), Below W.heap.size W x1 → okAt w0 w1 w2 w3 w4 F gs k = false → Ending.returned (Value.int .i64 13) = Ending.returned (Value.int .i64 (err (okB w0 w1 w2 w3 w4 F gs) 13)) ∧ Below w.heap.size w x1 := fun y hy h =>
        ⟨by rw [err_f]; unfold okB; rw [Hno.out h]; simp, up HW.out hy⟩
      have Fin := Lib.hid fin
      clear fin
      have e5 : b < W.heap.size + z.blocks.size := by omega
      by_cases c1 : g.o ≤ L
      · go_wp2
        go_ret
        exact Fin.out _ (up (grow_below W z) (up_alloc _ _)) (by rw [Hat.out]; simp; intros; omega)
      by_cases c2 : 1 ≤ g.o ∧ g.o ≤ 99
      rotate_left
      · go_wp2_with (go_at_call 29; refine (owner_dec _ _).mono ?_; rintro e x1 (⟨rfl, hi, rfl⟩ | ⟨rfl, hi, rfl⟩))
        · exact absurd hi c2
        · go_ret
          exact Fin.out _ (up (grow_below W z) (up_alloc _ _)) (by rw [Hat.out]; simp; intros; omega)
      cases hm : okM g.m0 g.m1 g.m2 g.m3 g.m4 g.m5
      · have Hm := Lib.hid hm
        clear hm
        go_wp2_with (first
          | (go_at_call 29; refine (owner_dec _ _).mono ?_; rintro e x1 (⟨rfl, hi, rfl⟩ | ⟨rfl, hi, rfl⟩))
          | (go_at_call 30; refine (checkMark_no _ _ _ _ _ _ _ Hm.out).mono ?_; rintro e x1 ⟨rfl, hb2⟩))
        · go_ret
          exact Fin.out _ (up (grow_below W z) (up (up_alloc _ _) hb2)) (by rw [Hat.out]; unfold Giv.okB; rw [Hm.out]; simp)
        · exact absurd c2 hi
      · have Hm := Lib.hid hm
        obtain ⟨⟨p0, q0⟩, ⟨p1, q1⟩, ⟨p2, q2⟩, ⟨p3, q3⟩, ⟨p4, q4⟩, ⟨p5, q5⟩⟩ := (okM_iff _ _ _ _ _ _).1 hm
        clear hm
        go_wp2_with (first
          | (go_at_call 29; refine (owner_dec _ _).mono ?_; rintro e x1 (⟨rfl, hi, rfl⟩ | ⟨rfl, hi, rfl⟩))
          | (go_at_call 30; refine (checkMark_yes _ _ _ _ _ _ _ Hm.out).mono ?_; rintro e x1 ⟨rfl, hb2⟩; obtain ⟨z2, rfl⟩ := below_grow hb2; clear hb2))
        · generalize hV : grow (World.alloc _ _) z2 = V
          have HV : Hid (Below W.heap.size W V) := Lib.hid (by subst hV; exact up (grow_below W z) (up (up_alloc _ _) (grow_below _ _)))
          have v1 : w.heap.size < V.heap.size := by subst hV; simp; omega
          have v2 : W.heap.size + z.blocks.size < V.heap.size := by subst hV; simp; omega
          have cv : ∀ j, V.cell? ⟨w.heap.size, j, none⟩ = [Value.int .i64 w0, .int .i64 w1, .int .i64 w2, .int .i64 w3, .int .i64 w4, .int .i64 F, .slice (some ⟨b, o, none⟩) n c][j]? := by
            intro j; rw [← cm j]; exact HV.out.cell (p := ⟨w.heap.size, j, none⟩) hs
          have cg : ∀ j, V.cell? ⟨W.heap.size + z.blocks.size, j, none⟩ = [Value.int .i64 g.o, .int .i64 g.m0, .int .i64 g.m1, .int .i64 g.m2, .int .i64 g.m3, .int .i64 g.m4, .int .i64 g.m5][j]? := by
            subst hV; intro j
            rw [grow_cell_lt _ _ _ _ (by simp), World.cell?_alloc_at _ _ _ _ (by simp)]; simp
          have HG := Lib.hid (Hgt.out.keep HV.out)
          clear hV
          refine wp_region_grow (by kernel_rfl) (by kernel_rfl) ?_
          repeat (go_big_quiet_step ((go_at_call 31; exact quiet_grow rfl (near_any _ _ _ _ _ _ _ _ _ _ _ _ _ _ _ _ _ (by assumption) (by assumption) (by assumption) (by assumption) (by assumption) (by assumption) (by assumption) (by assumption) (by assumption) (by assumption) (by assumption) (by assumption) hF0 hF2 (HG.out.keep (grow_below _ _)) Hok.out))))
          refine wpQuiet_nil ?_
          intro z3
          cases hne : nearB w0 w1 w2 w3 w4 F g.m0 g.m1 g.m2 g.m3 g.m4 g.m5 (gs.take k)
          · have Hne := Lib.hid hne
            clear hne
            go_wp2
            obtain ⟨y, hy⟩ := below_grow (up HV.out (grow_below V z3))
            refine ⟨⟨k + 1, y, by omega, by go_num, by rw [Hnx.out], hy, ?_⟩, by simp [intOf]; omega⟩
            show (allK (okAt w0 w1 w2 w3 w4 F gs) k && okAt w0 w1 w2 w3 w4 F gs k) = true
            rw [Hall.out, Hat.out, Hne.out]; unfold Giv.okB; rw [Hm.out]; simp; omega
          · have Hne := Lib.hid hne
            clear hne
            go_wp2
            go_ret
            exact Fin.out _ (up HV.out (grow_below V z3)) (by rw [Hat.out, Hne.out]; simp)
        · exact absurd c2 hi
    · obtain rfl : k = n := by omega
      go_wp2
      go_ret
      refine ⟨congrArg (fun v => Ending.returned (Value.int .i64 v)) ?_, up HW.out (grow_below W z)⟩
      rw [err_t]; unfold okB; rw [Hw.out, ← Hl.out, hall]; simp; omega
end Go.Proofs.YtfhcofljlkihoaaGreatDoor

