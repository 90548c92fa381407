/- Contracts of functions of the program and of the reference, and plain facts: a part of a proof. Own text. -/
import Derived.Test.YtaieidigpilbfaaGreatJd
import Derived.Test.YtaieidigpilbfaaGreatJe
import Derived.Test.YtaieidigpilbfaaGreatJh
import Derived.Shelf.Sort.Plain
import Derived.Shelf.Slices.In.SortNone
import Derived.Test.YtaieidigpilbfaaGreatProg
set_option linter.unusedVariables false
set_option linter.unusedSimpArgs false
set_option linter.unusedSectionVars false
namespace Go.Proofs
open Go.Shelf
def Tryz.lays189_ren : Go.Shelf.Ren := ⟨fun | 189 => 111 | 125 => 150 | 257 => 149 | 128 => 165 | 129 => 166 | 294 => 156 | 295 => 157 | 296 => 158 | 297 => 159 | 298 => 160 | 299 => 161 | 216 => 162 | 300 => 163 | 301 => 164 | 328 => 167 | 329 => 168 | 330 => 169 | 331 => 170 | 332 => 171 | 215 => 172 | 343 => 173 | n => n, fun | 28 => 22 | 3 => 3 | 46 => 158 | 0 => 0 | 51 => 172 | 53 => 174 | 4 => 4 | 183 => 164 | 182 => 163 | 131 => 169 | 5 => 5 | 9 => 9 | 218 => 175 | 222 => 179 | 228 => 181 | 229 => 182 | n => n, fun | n => n⟩
theorem Tryz.lays189 : Go.Proofs.Lays.n189 Tryz.prog Tryz.lays189_ren := {
  mixed := by kernel_rfl
  f125 := Tryz.func150.trans (congrArg some (by kernel_rfl))
  f128 := Tryz.func165.trans (congrArg some (by kernel_rfl))
  f129 := Tryz.func166.trans (congrArg some (by kernel_rfl))
  f189 := Tryz.func111.trans (congrArg some (by kernel_rfl))
  f215 := Tryz.func172.trans (congrArg some (by kernel_rfl))
  f216 := Tryz.func162.trans (congrArg some (by kernel_rfl))
  f257 := Tryz.func149.trans (congrArg some (by kernel_rfl))
  f294 := Tryz.func156.trans (congrArg some (by kernel_rfl))
  f295 := Tryz.func157.trans (congrArg some (by kernel_rfl))
  f296 := Tryz.func158.trans (congrArg some (by kernel_rfl))
  f297 := Tryz.func159.trans (congrArg some (by kernel_rfl))
  f298 := Tryz.func160.trans (congrArg some (by kernel_rfl))
  f299 := Tryz.func161.trans (congrArg some (by kernel_rfl))
  f300 := Tryz.func163.trans (congrArg some (by kernel_rfl))
  f301 := Tryz.func164.trans (congrArg some (by kernel_rfl))
  f328 := Tryz.func167.trans (congrArg some (by kernel_rfl))
  f329 := Tryz.func168.trans (congrArg some (by kernel_rfl))
  f330 := Tryz.func169.trans (congrArg some (by kernel_rfl))
  f331 := Tryz.func170.trans (congrArg some (by kernel_rfl))
  f332 := Tryz.func171.trans (congrArg some (by kernel_rfl))
  f343 := Tryz.func173.trans (congrArg some (by kernel_rfl))
  t0 := Tryz.underlying0
  a0 := Tryz.isAgg0
  z0 := Tryz.sizeOf0
  v0 := Tryz.zeroValue0
  t3 := Tryz.underlying3
  a3 := Tryz.isAgg3
  z3 := Tryz.sizeOf3
  v3 := Tryz.zeroValue3
  t4 := Tryz.underlying4
  a4 := Tryz.isAgg4
  z4 := Tryz.sizeOf4
  v4 := Tryz.zeroValue4
  t5 := Tryz.underlying5
  a5 := Tryz.isAgg5
  z5 := Tryz.sizeOf5
  v5 := Tryz.zeroValue5
  t9 := Tryz.underlying9
  a9 := Tryz.isAgg9
  z9 := Tryz.sizeOf9
  v9 := Tryz.zeroValue9
  t28 := Tryz.underlying22
  a28 := Tryz.isAgg22
  z28 := Tryz.sizeOf22
  v28 := Tryz.zeroValue22
  t46 := Tryz.underlying158
  a46 := Tryz.isAgg158
  z46 := Tryz.sizeOf158
  v46 := Tryz.zeroValue158
  t51 := Tryz.underlying172
  a51 := Tryz.isAgg172
  z51 := Tryz.sizeOf172
  v51 := Tryz.zeroValue172
  t53 := Tryz.underlying174
  a53 := Tryz.isAgg174
  z53 := Tryz.sizeOf174
  v53 := Tryz.zeroValue174
  t131 := Tryz.underlying169
  a131 := Tryz.isAgg169
  z131 := Tryz.sizeOf169
  v131 := Tryz.zeroValue169
  t182 := Tryz.underlying163
  a182 := Tryz.isAgg163
  z182 := Tryz.sizeOf163
  v182 := Tryz.zeroValue163
  t183 := Tryz.underlying164
  a183 := Tryz.isAgg164
  z183 := Tryz.sizeOf164
  v183 := Tryz.zeroValue164
  t218 := Tryz.underlying175
  a218 := Tryz.isAgg175
  z218 := Tryz.sizeOf175
  v218 := Tryz.zeroValue175
  t222 := Tryz.underlying179
  a222 := Tryz.isAgg179
  z222 := Tryz.sizeOf179
  v222 := Tryz.zeroValue179
  t228 := Tryz.underlying181
  a228 := Tryz.isAgg181
  z228 := Tryz.sizeOf181
  v228 := Tryz.zeroValue181
  t229 := Tryz.underlying182
  a229 := Tryz.isAgg182
  z229 := Tryz.sizeOf182
  v229 := Tryz.zeroValue182 }
open Go.Sort Go.RowKit in
theorem Tryz.slices_Sort_int (blk off cap : Nat) (zs : List Int) (w : World) (hH : Holds (Value.int .i64) w blk off zs.toArray) (hblk : blk < w.heap.size) (hsz : zs.length < 4611686018427387904) :
    Calls Tryz.prog 111 #[.slice (some ⟨blk, off, none⟩) zs.length cap] w fun e w' =>
      e = .returned (.tuple #[]) ∧ ∃ n os, w' = grow (putRow (Value.int .i64) (Sort.ahead w n) blk off (zs.mergeSort fun x y => decide (x ≤ y)).toArray) os := Any.slices_Sort_int Tryz.lays189 blk off cap zs w hH hblk hsz
open Go.RowKit Go.Sort in
theorem Tryz.slices_Sort_int_none (p : Option Addr) (cap : Nat) (w : World) :
    Calls Tryz.prog 111 #[.slice p 0 cap] w fun e w' => e = .returned (.tuple #[]) ∧ w' = w := Any.slices_Sort_int_none Tryz.lays189 p cap w
end Go.Proofs

namespace Go.Proofs.YtaieidigpilbfaaGreat
open Go Go.RowKit
set_option maxHeartbeats 1000000
set_option maxRecDepth 100000

def srt (l : List Int) : List Int := l.mergeSort fun x y => decide (x ≤ y)
theorem srt_len (l : List Int) : (srt l).length = l.length := by unfold srt; exact List.length_mergeSort l
theorem srt_mem {l : List Int} {x : Int} : x ∈ srt l ↔ x ∈ l := by unfold srt; exact List.mem_mergeSort
theorem OI.row {w : World} {base n c : Nat} {A : Option Addr} {l : List Int} (h : OI w base (.slice A n c) l) (hl : 0 < l.length) : ∃ g cur, A = some ⟨g, 0, none⟩ ∧ base ≤ g ∧ w.heap[g]? = some (.cells cur 3 (0, 0)) := by
  rcases h.h.2 with ⟨h1, h2⟩ | ⟨g, cap, cur, h1, h2, h3, _⟩
  · exact absurd hl (by omega)
  · cases h1; exact ⟨g, cur, rfl, h2, h3⟩
theorem sort_any (w : World) (base n c : Nat) (A : Option Addr) (l : List Int) (h : OI w base (.slice A n c) l) (hn : n = l.length) (h40 : l.length ≤ 1000) (hb : base ≤ w.heap.size) :
    Calls Tryz.prog 111 #[.slice A n c] w fun e w' => e = .returned (.tuple #[]) ∧ Is w' A n (srt l) ∧ Below base w w' := by
  by_cases h0 : l.length = 0
  · obtain rfl : l = [] := List.length_eq_zero_iff.1 h0
    subst hn
    refine (Tryz.slices_Sort_int_none A c w).mono ?_
    rintro e w' ⟨rfl, rfl⟩
    exact ⟨rfl, ⟨by rw [srt_len], by simp, fun k hk => by rw [srt_len] at hk; simp at hk⟩, Below.refl _ _⟩
  · obtain ⟨g, cur, rfl, hg, hrow⟩ := h.row (by omega)
    obtain ⟨A2, c2, e2, hc2, his, -⟩ := h.is
    cases e2
    have hlt : g < w.heap.size := (Array.getElem?_eq_some_iff.1 hrow).1
    have hH : Go.Sort.Holds (Value.int .i64) w g 0 l.toArray := by
      intro j hj
      have hjl : j < l.length := by simpa using hj
      obtain ⟨b, o, e, _, hc⟩ := his.get j hjl
      cases e
      refine ⟨?_, frozen_of_row w g (0 + j) _ _ hrow⟩
      rw [hc]; simp [hjl]
    refine (Tryz.slices_Sort_int g 0 c l w hH hlt (by omega)).mono ?_
    rintro e w' ⟨rfl, q, os, rfl⟩
    have hH2 : Go.Sort.Holds (Value.int .i64) (Go.Sort.putRow (Value.int .i64) (Go.Sort.ahead w q) g 0 (srt l).toArray) g 0 (srt l).toArray :=
      Go.Sort.holds_putRow _ _ _ _ l.toArray _ hH (by simp [srt_len])
    have hother : ∀ k, k ≠ g → (Go.Sort.putRow (Value.int .i64) (Go.Sort.ahead w q) g 0 (srt l).toArray).heap[k]? = w.heap[k]? := fun k hk => by
      show (w.heap.modify g _)[k]? = _
      rw [Array.getElem?_modify, if_neg (Ne.symm hk)]
    have hsz : (Go.Sort.putRow (Value.int .i64) (Go.Sort.ahead w q) g 0 (srt l).toArray).heap.size = w.heap.size := Go.Sort.size_putRow _ _ _ _ _
    have htape : (Go.Sort.putRow (Value.int .i64) (Go.Sort.ahead w q) g 0 (srt l).toArray).tape = w.tape := rfl
    have hos : (Go.Sort.putRow (Value.int .i64) (Go.Sort.ahead w q) g 0 (srt l).toArray).os = w.os := rfl
    have hout : (Go.Sort.putRow (Value.int .i64) (Go.Sort.ahead w q) g 0 (srt l).toArray).output = w.output := rfl
    show _ ∧ Is (Go.Sort.grow (Go.Sort.putRow (Value.int .i64) (Go.Sort.ahead w q) g 0 (srt l).toArray) os) _ _ _ ∧ Below base w (Go.Sort.grow (Go.Sort.putRow (Value.int .i64) (Go.Sort.ahead w q) g 0 (srt l).toArray) os)
    generalize Go.Sort.putRow (Value.int .i64) (Go.Sort.ahead w q) g 0 (srt l).toArray = V at *
    have hbl : ∀ k, k < V.heap.size → (Go.Sort.grow V os).heap[k]? = V.heap[k]? := fun k hk => by
      show (V.heap ++ os)[k]? = _
      rw [Array.getElem?_append_left hk]
    refine ⟨rfl, ⟨(srt_len l).symm, by omega, fun k hk => ⟨g, 0, rfl, by show g < (V.heap ++ os).size; simp; omega, ?_⟩⟩, ⟨hos, htape, hout, by show w.heap.size ≤ (V.heap ++ os).size; simp; omega, fun k hk => ?_⟩⟩
    · rw [World.cell?_of_block (a := ⟨g, 0 + k, none⟩) (hbl g (by omega)), (hH2 k (by simpa using hk)).1]
      simp [hk]
    · rw [hbl k (by omega), hother k (by omega)]

/-- A function of days, in whatever world has grown out of w. -/
def DyCl (g : FuncId) (v1 v2 v3 : Value) (p : Nat → Bool) (n : Nat) (w : World) : Prop :=
  ∀ (X : World) (i : Nat), Below w.heap.size w X → i < n → Calls Tryz.prog g #[.int .i64 (i : Int), v1, v2, v3] X fun e w' => e = .returned (.bool (p i)) ∧ Below X.heap.size X w'
theorem search_any (g : FuncId) (v1 v2 v3 : Value) (p : Nat → Bool) (n : Nat) (w : World) (eg : ∀ args w, (callFunc g args).run Tryz.prog w = .ok (.enter g args) w) (hf : DyCl g v1 v2 v3 p n w) (hn : n ≤ 1000000) (hmono : ∀ a b, a ≤ b → b < n → p a = true → p b = true) :
    Calls Tryz.prog 119 #[.int .i64 (n : Int), .func (.func g) #[] #[v1, v2, v3]] w fun e w' => ∃ q : Nat, e = .returned (.int .i64 (q : Int)) ∧ (q ≤ n ∧ (∀ t, t < q → p t = false) ∧ (∀ t, q ≤ t → t < n → p t = true)) ∧ Below w.heap.size w w' := by
  have HF := Lib.hid hf; have M := Lib.hid hmono
  clear hf hmono
  go_enter Tryz.func119, Tryz.ntmps119
  go_wp2_with fail
  go_loopw [5, 6] (fun s5 s6 wr => ∃ (lo hi : Nat), s5 = .int .i64 (lo : Int) ∧ s6 = .int .i64 (hi : Int) ∧ lo ≤ hi ∧ hi ≤ n ∧ Below w.heap.size w wr ∧ ((∀ t, t < lo → p t = false) ∧ (∀ t, hi ≤ t → t < n → p t = true))) (fun s5 s6 _ => (intOf s6).toNat - (intOf s5).toNat)
  case atStart => exact ⟨0, n, rfl, rfl, Nat.zero_le _, Nat.le_refl _, Below.refl _ _, fun t ht => absurd ht (Nat.not_lt_zero _), fun t h1 h2 => by omega⟩
  case round =>
    obtain ⟨lo, hi, rfl, rfl, hlh, hin, hb, hI⟩ := hrel
    have HB := Lib.hid hb; have I := Lib.hid hI
    clear hb hI
    by_cases hlt : lo < hi
    · have hc := HF.out _ ((lo + hi) / 2) HB.out (by omega)
      rw [show (((lo + hi) / 2 : Nat) : Int) = ((lo : Int) + (hi : Int)) / 2 by omega] at hc
      cases hp : p ((lo + hi) / 2)
      all_goals
        rw [hp] at hc
        have HP := Lib.hid hp; have HC := Lib.hid hc
        clear hp hc
        go_wp2_with (go_at_fn g; refine HC.out.mono ?_; rintro e w' ⟨rfl, hbw⟩; have HB2 := Lib.hid (up HB.out hbw); clear hbw)
      · refine ⟨⟨(lo + hi) / 2 + 1, hi, by go_num, rfl, by omega, hin, HB2.out, fun t ht => ?_, I.out.2⟩, by simp [intOf]; omega⟩
        cases h : p t with
        | false => rfl
        | true => have := M.out t ((lo + hi) / 2) (by omega) (by omega) h; rw [HP.out] at this; cases this
      · exact ⟨⟨lo, (lo + hi) / 2, rfl, by go_num, by omega, by omega, HB2.out, I.out.1, fun t h1 h2 => M.out ((lo + hi) / 2) t h1 h2 HP.out⟩, by simp [intOf]; omega⟩
    · obtain rfl : hi = lo := by omega
      go_wp2
      go_ret
      exact ⟨hi, rfl, ⟨hin, I.out.1, I.out.2⟩, HB.out⟩
end Go.Proofs.YtaieidigpilbfaaGreat

namespace Go.Proofs.YtaieidigpilbfaaGreat
open Go Go.RowKit
set_option maxHeartbeats 2000000
set_option maxRecDepth 100000

/-- A block that begins with these numbers. -/
structure Row (w : World) (g : Nat) (l : List Int) : Prop where
  ex : ∃ cs, Bx w g 3 cs ∧ ∀ j (h : j < l.length), cs[j]? = some (.int .i64 l[j])
theorem Row.lt {w : World} {g : Nat} {l : List Int} (h : Row w g l) : g < w.heap.size := by obtain ⟨cs, k, _⟩ := h.ex; exact k.lt
theorem Row.keep {w w' : World} {g : Nat} {l : List Int} (h : Row w g l) (hb : Below w.heap.size w w') : Row w' g l := by
  obtain ⟨cs, k, h1⟩ := h.ex; exact ⟨cs, k.keep hb, h1⟩
theorem Row.cell {w : World} {g : Nat} {l : List Int} (h : Row w g l) {j : Nat} (hj : j < l.length) : w.cell? ⟨g, j, none⟩ = some (.int .i64 l[j]) := by
  obtain ⟨cs, k, h1⟩ := h.ex; rw [k.get]; exact h1 j hj
theorem Row.fr {w : World} {g : Nat} {l : List Int} (h : Row w g l) (j : Nat) : w.frozen? ⟨g, j, none⟩ = false := by
  obtain ⟨cs, k, h1⟩ := h.ex; exact k.fr j
theorem Row.is {w : World} {g : Nat} {l : List Int} (h : Row w g l) (hl : l.length ≤ 1000) : Is w (some ⟨g, 0, none⟩) l.length l :=
  ⟨rfl, by omega, fun k hk => ⟨g, 0, rfl, h.lt, by rw [Nat.zero_add]; exact h.cell hk⟩⟩
theorem Row.set {w : World} {g : Nat} {l : List Int} (h : Row w g l) (j : Nat) (x : Int) : Row (w.setCell ⟨g, j, none⟩ (.int .i64 x)) g (l.set j x) := by
  obtain ⟨cs, k, h1⟩ := h.ex
  refine ⟨_, k.cell j (.int .i64 x), fun i hi => ?_⟩
  have hil : i < l.length := by simpa using hi
  have := h1 i hil
  have hic : i < cs.length := (List.getElem?_eq_some_iff.1 this).1
  rw [List.getElem?_set, List.getElem_set]
  by_cases e : j = i
  · subst e; simp [hic]
  · simp [e, this]
theorem OI.rowI {w : World} {base n c : Nat} {A : Option Addr} {l : List Int} (h : OI w base (.slice A n c) l) (hl : 0 < l.length) : ∃ g, A = some ⟨g, 0, none⟩ ∧ base ≤ g ∧ Row w g l := by
  obtain ⟨g, cur, rfl, hg, hr⟩ := h.row hl
  obtain ⟨A2, c2, e2, _, his, _⟩ := h.is
  cases e2
  refine ⟨g, rfl, hg, ⟨cur.toList, ⟨hr⟩, fun j hj => ?_⟩⟩
  obtain ⟨b, o, e, _, hc⟩ := his.get j hj
  cases e
  rw [cell_of_row _ _ _ _ _ _ hr] at hc
  simpa using hc

theorem standS_in {P ap : List Int} {bs : List Kd} {p st : List Int} (h : standS P ap bs p = some st) : p.length = bs.length ∧ ∀ k (hk : k < p.length), 0 ≤ p[k] ∧ p[k] ≤ (P.length : Int) - 1 := by
  have hl : p.length = bs.length := by
    by_cases e : p.length = bs.length
    · exact e
    · rw [standS_len e] at h; cases h
  refine ⟨hl, fun k hk => ?_⟩
  cases hs : standK P ap bs p k with
  | none =>
    have := standS_none hk (by rw [standK, hs])
    rw [this] at h; cases h
  | some s =>
    cases hb : inB (p.getD k 0) 0 ((P.length : Int) - 1) with
    | true =>
      have := inB_iff.1 hb
      simpa [hk] using this
    | false =>
      have := standS_none (P := P) (ap := ap) (bs := bs) hk (by rw [standK_some hs, hb]; rfl)
      rw [this] at h; cases h
theorem plE_ok {P : List Int} {K : List Kd} {l p : List Int} (h : plE P K l p = 0) : sE P K l = 0 ∧ ∃ st, standS P (apL K) (bsL K l) p = some st := by
  unfold plE at h
  split at h
  · rename_i h0
    refine ⟨h0, ?_⟩
    cases hs : standS P (apL K) (bsL K l) p with
    | none => rw [hs] at h; simp at h
    | some st => exact ⟨st, rfl⟩
  · exact absurd h (by assumption)
theorem placed_bad (A : Option Addr) (n c : Nat) (P : List Int) (B : Option Addr) (m d : Nat) (K : List Kd) (L : Option Addr) (r s : Nat) (l : List Int) (C : Option Addr) (u v : Nat) (p : List Int) (w : World)
    (hp : Is w A n P) (hg : Ks w B m K) (hl : Is w L r l) (hc : Is w C u p) (h : plE P K l p ≠ 0) :
    Calls Tryz.prog 79 #[.agg #[.slice A n c, .slice B m d], .slice L r s, .slice C u v] w fun e w' => e = .returned (.tuple #[.agg ⟨ldL none 0 0 (.slice none 0 0) ap0⟩, .agg ⟨ints ap0⟩, .int .i64 (plE P K l p)]) ∧ Below w.heap.size w w' := by
  by_cases h0 : sE P K l = 0
  · have hS : standS P (apL K) (bsL K l) p = none := by
      cases hs : standS P (apL K) (bsL K l) p with
      | none => rfl
      | some st => exact absurd (by unfold plE; rw [if_pos h0, hs]; rfl) h
    have e : plE P K l p = 52 := by unfold plE; rw [if_pos h0, hS]; rfl
    rw [e]
    exact placed_no A n c P B m d K L r s l C u v p w hp hg hl hc h0 hS
  · have e : plE P K l p = sE P K l := by unfold plE; rw [if_neg h0]
    rw [e]
    exact placed_e A n c P B m d K L r s l C u v p w hp hg hl hc h0

/-- The room that is left in each pen, once the first k beasts stand. -/
def freK (P : List Int) (bs : List Kd) (p : List Int) : Nat → List Int
  | 0 => P
  | k + 1 => (freK P bs p k).set (p.getD k 0).toNat ((freK P bs p k).getD (p.getD k 0).toNat 0 - (bs.getD k kd0).r)
def freL (P : List Int) (K : List Kd) (l p : List Int) : List Int := if plE P K l p = 0 then freK P (bsL K l) p p.length else []
theorem freK_len (P : List Int) (bs : List Kd) (p : List Int) (k : Nat) : (freK P bs p k).length = P.length := by
  induction k with
  | zero => rfl
  | succ k ih => rw [freK, List.length_set, ih]
theorem freK_in {P : List Int} {bs : List Kd} {p : List Int} (hP : psOk P = true) (hb : goodB bs) : ∀ k, k ≤ bs.length → ∀ j (hj : j < (freK P bs p k).length), -1000 * (k : Int) ≤ (freK P bs p k)[j] ∧ (freK P bs p k)[j] ≤ 1000 := by
  intro k
  induction k with
  | zero =>
    intro _ j hj
    have := (List.all_eq_true.1 hP) P[j] (List.getElem_mem hj)
    rw [inB_iff] at this
    simp only [freK]; omega
  | succ k ih =>
    intro hk j hj
    have hkd := hb bs[k] (List.getElem_mem (by omega))
    have hjl : j < (freK P bs p k).length := by rw [freK_len] at hj ⊢; exact hj
    have h1 := ih (by omega) j hjl
    simp only [freK, List.getElem_set]
    split
    · rename_i e
      rw [show bs.getD k kd0 = bs[k]'(by omega) by simp [show k < bs.length by omega], e, show (freK P bs p k).getD j 0 = (freK P bs p k)[j] by simp [hjl]]
      omega
    · omega

theorem Free_any (A : Option Addr) (n c : Nat) (P : List Int) (B : Option Addr) (m d : Nat) (K : List Kd) (L : Option Addr) (r s : Nat) (l : List Int) (C : Option Addr) (u v : Nat) (p : List Int) (w : World)
    (hp : Is w A n P) (hg : Ks w B m K) (hl : Is w L r l) (hc : Is w C u p) :
    Calls Tryz.prog 30 #[.agg #[.slice A n c, .slice B m d], .slice L r s, .slice C u v] w fun e w' => ∃ x, e = .returned (.tuple #[x, .int .i64 (plE P K l p)]) ∧ Lst w.heap.size w' x (freL P K l p) ∧ Below w.heap.size w w' := by
  have Hp := Lib.hid hp; have Hg := Lib.hid hg; have Hl := Lib.hid hl; have Hc := Lib.hid hc
  have Hu : Hid (u = p.length) := Lib.hid hc.len
  have Hn : Hid (n = P.length) := Lib.hid hp.len
  clear hp hg hl hc
  by_cases h0 : plE P K l p = 0
  rotate_left
  · have hne : (plE P K l p != 0) = true := by simpa using h0
    have H0 := Lib.hid h0
    have HX : Hid (freL P K l p = []) := Lib.hid (by unfold freL; rw [if_neg h0])
    rw [HX.out]
    clear h0
    go_enter Tryz.func30, Tryz.ntmps30
    go_upto_region 1 with fail
    generalize hW : (World.alloc _ _) = W
    have HB : Hid (Below w.heap.size w W) := Lib.hid (by subst hW; go_grown)
    have KY : Bx W (w.heap.size) 25 [.slice A n c, .slice B m d] := by subst hW; repeat (first | (refine Bx.newAt _ _ _ ?_; first | rfl | (simp only [World.size_alloc]; done) | (simp only [World.size_alloc]; omega)) | refine Bx.old ?_ _)
    clear hW
    have KYl := KY.lt; have KYc := KY.get; have KYf := KY.fr
    go_wp2_with (first
      | (go_at_call 79; refine (placed_bad A n c P B m d K L r s l C u v p _ (Hp.out.keep HB.out) (Hg.out.keep HB.out) (Hl.out.keep HB.out) (Hc.out.keep HB.out) H0.out).mono ?_; rintro e X ⟨rfl, hbx⟩; clear KYl KYc KYf; replace KY := KY.keep hbx; have KYl := KY.lt; have KYc := KY.get; have KYf := KY.fr; replace HB := Lib.hid (up HB.out hbx); clear hbx)
      | (refine wpList_put 83 8 19 rfl rfl (Bx.old (Bx.new X _ 83) _) rfl rfl (sL83 (ap := ap0) rfl) (sLo (ap := ap0) rfl) ldL_one ?_; intro U KU hp; have KI : Bx U (X.heap.size + 1) 107 (ints ap0) := (Bx.newAt _ _ _ (by rw [World.size_alloc])).put hp (by omega); have hbu := upP ((up_alloc X _).trans ((up_alloc _ _).mono (by rw [World.size_alloc]; omega))) hp (by omega); have KIl := KI.lt; have KIc := KI.get; have KIf := KI.fr)
      | (refine wpList_put 107 9 20 rfl rfl KI rfl rfl (sI107 (l := ap0) rfl) rfl (ints_one ap0) ?_; intro U2 KI2 hp2; have HBU := Lib.hid (upP (up HB.out hbu) hp2 (by have := HB.out.size; omega))))
    go_ret2
    exact ⟨_, rfl, Lst.nil _ _, HBU.out⟩
  · obtain ⟨hs0, st, hst⟩ := plE_ok h0
    obtain ⟨hpl, hpin⟩ := standS_in hst
    obtain ⟨hy, h8, hlo⟩ := sE_0 hs0
    obtain ⟨h5, hP, hK⟩ := yOk_k hy
    have hap := apL_len K
    have hgood := bsL_good hK hlo
    have hst10 : st.length = 10 := by
      rw [standS_eq hpl] at hst
      exact (standK_ok hP hgood _ _ (by omega) hst).1
    have Hfin := Lib.hid (freK_in (p := p) hP hgood)
    have Hpin := Lib.hid hpin
    have Hgood := Lib.hid hgood
    have hbl : (bsL K l).length = l.length := bsL_len K l
    have HS0 := Lib.hid hs0; have HSt := Lib.hid hst
    have HX : Hid (freL P K l p = freK P (bsL K l) p p.length) := Lib.hid (by unfold freL; rw [if_pos h0])
    rw [h0, HX.out]
    clear h0 hs0 hst hpin hgood hy hlo hP hK
    go_enter Tryz.func30, Tryz.ntmps30
    go_upto_region 1 with fail
    generalize hW : (World.alloc _ _) = W
    have HB : Hid (Below w.heap.size w W) := Lib.hid (by subst hW; go_grown)
    have KY : Bx W (w.heap.size) 25 [.slice A n c, .slice B m d] := by subst hW; repeat (first | (refine Bx.newAt _ _ _ ?_; first | rfl | (simp only [World.size_alloc]; done) | (simp only [World.size_alloc]; omega)) | refine Bx.old ?_ _)
    clear hW
    have KYl := KY.lt; have KYc := KY.get; have KYf := KY.fr
    go_upto_region 4 with (first
      | (go_at_call 79; refine (placed_ok A n c P B m d K L r s l C u v p _ (Hp.out.keep HB.out) (Hg.out.keep HB.out) (Hl.out.keep HB.out) (Hc.out.keep HB.out) HS0.out HSt.out).mono ?_; rintro e X ⟨B', c', rfl, hlc, hks, hbx⟩; have Hks := Lib.hid hks; have hwx := KY.lt; have hxs := hbx.size; clear hks; clear KYl KYc KYf; replace KY := KY.keep hbx; have KYl := KY.lt; have KYc := KY.get; have KYf := KY.fr; replace HB := Lib.hid (up HB.out hbx); clear hbx)
      | (refine wpList_put 83 8 19 rfl rfl (Bx.old (Bx.new X _ 83) _) rfl rfl (sL83 hap) (sLo hap) ldL_one ?_; intro U KU hp; have KI : Bx U (X.heap.size + 1) 107 (ints ap0) := (Bx.newAt _ _ _ (by rw [World.size_alloc])).put hp (by omega); have hbu := upP ((up_alloc X _).trans ((up_alloc _ _).mono (by rw [World.size_alloc]; omega))) hp (by omega); have KIl := KI.lt; have KIc := KI.get; have KIf := KI.fr)
      | (refine wpList_put 107 9 20 rfl rfl KI rfl rfl (sI107 hst10) (sIo hst10) (ints_one _) ?_; intro U2 KI2 hp2; have KU2 := KU.put hp2 (by omega); have hbu2 := upP hbu hp2 (by omega); have HksU := Lib.hid (Hks.out.keep hbu2); clear KI KIl KIc KIf KU hbu hp2 KI2; clear KYl KYc KYf; replace KY := KY.keep hbu2; have KYl := KY.lt; have KYc := KY.get; have KYf := KY.fr; replace HB := Lib.hid (up HB.out hbu2); clear hbu2))
    have HpU := Lib.hid (Hp.out.keep HB.out); have HcU := Lib.hid (Hc.out.keep HB.out)
    clear Hp Hg Hl Hks
    go_upto_region 5 with (go_at_call 80; refine (clone_any A n c P _ HpU.out (by omega)).mono ?_; rintro e V ⟨FA, fc, rfl, hO, hbv⟩; have HO := Lib.hid hO; have hsU := KU2.lt; have KUV := KU2.keep hbv; have HcV := Lib.hid (HcU.out.keep hbv); have HkV := Lib.hid (HksU.out.keep hbv); have hsv := hbv.size; replace HB := Lib.hid (up HB.out hbv); clear hO hbv KU2 HcU HpU KY KYl KYc KYf)
    have Hcap := Lib.hid HO.out.cap
    obtain ⟨A2, c2, e2, hc2, his, hfar⟩ := HO.out.is
    cases e2
    have hrow : 0 < P.length → ∃ g, FA = some ⟨g, 0, none⟩ ∧ U2.heap.size ≤ g ∧ Row V g P := fun h => HO.out.rowI h
    have Hfar := Lib.hid hfar
    have hwU : w.heap.size ≤ U2.heap.size := by omega
    go_wp2_with fail
    go_loopw [30] (fun i wr => ∃ (k : Nat), k ≤ u ∧ i = .int .i64 k ∧ Is wr FA P.length (freK P (bsL K l) p k) ∧ (0 < P.length → ∃ g, FA = some ⟨g, 0, none⟩ ∧ U2.heap.size ≤ g ∧ Row wr g (freK P (bsL K l) p k)) ∧ Below w.heap.size w wr ∧ Bx wr X.heap.size 83 (ldL A n c (.slice B' l.length c') (apL K)) ∧ Below U2.heap.size V wr) (fun i _ => u - (intOf i).toNat)
    case atStart => exact ⟨0, by omega, rfl, his, hrow, HB.out, KUV, Below.mono (Below.refl _ _) (by omega)⟩
    case round =>
      clear his hrow HB KUV HO
      obtain ⟨k, hk, rfl, his, hrow, hb, KU, hbV⟩ := hrel
      have HB := Lib.hid hb; have HBV := Lib.hid hbV
      have Hkw := Lib.hid (HkV.out.keepO HksU.out (fun b hlt => hbV.block b hlt) hbV.size)
      have Hcw := Lib.hid (Hc.out.keep HB.out)
      clear hb hbV
      by_cases hlt : k < u
      · have hkp : k < p.length := by rw [← Hu.out]; exact hlt
        have hkb : k < (bsL K l).length := by omega
        have hkl : k < l.length := by omega
        have hpk := Hpin.out k hkp
        have hP0 : 0 < P.length := by omega
        obtain ⟨g, rfl, hgU, hR⟩ := hrow hP0
        have HK1 : Hid (freK P (bsL K l) p (k + 1) = (freK P (bsL K l) p k).set p[k].toNat ((freK P (bsL K l) p k).getD p[k].toNat 0 - (bsL K l)[k].r)) := Lib.hid (by rw [freK]; simp [hkp, hkb])
        have hfl := freK_len P (bsL K l) p k
        have hkd := Hgood.out (bsL K l)[k] (List.getElem_mem hkb)
        have hHBV := HBV.out.size
        have hHB := HB.out.size
        obtain ⟨b, o, rfl, hb, hcp⟩ := Hcw.out.get k hkp
        obtain ⟨b2, o2, rfl, hb2, hcs⟩ := Hkw.out.get k hkb
        obtain ⟨-, c1, -, -⟩ := hcs
        obtain ⟨j, hj⟩ := Int.eq_ofNat_of_zero_le hpk.1
        have hj2 : p[k].toNat = j := by omega
        rw [hj2] at HK1
        have hjP : j < P.length := by omega
        have hjf : j < (freK P (bsL K l) p k).length := by rw [hfl]; exact hjP
        have hcf := hR.cell hjf
        have hf := Hfin.out k (by omega) j hjf
        rw [show (freK P (bsL K l) p k).getD j 0 = (freK P (bsL K l) p k)[j] by simp [hjf]] at HK1
        rw [hj] at hcp hpk
        have HR := Lib.hid hR; have Hrow := Lib.hid hrow; have His := Lib.hid his
        have hgl := hR.lt
        have hff := hR.fr j
        have hkm := Hkw.out.small
        have hklm : k < l.length := hkl
        generalize (bsL K l)[k].r = y at *
        generalize (freK P (bsL K l) p k)[j] = x at *
        have hxy : -10000 ≤ x - y ∧ x - y ≤ 10000 := by omega
        have e1 : IntKind.i64.wrap (x - y) = x - y := by rw [IntWalk.i64_in _ (by omega)]
        clear hR hrow his hj hj2
        have KUl := KU.lt; have KUc := KU.get; have KUf := KU.fr
        go_upto_region 8 with fail
        refine wp_region_grow_tail 12 (by kernel_rfl) (by kernel_rfl) ?_
        simp only [List.take_succ_cons, List.take_zero, List.drop_succ_cons, List.drop_zero]
        repeat (go_big_quiet_step ((fail)))
        refine wpQuiet_nil ?_
        intro z
        have hbz := grow_below wr z
        have hffz := (hbz.frozen (p := ⟨g, j, none⟩) hgl).trans hff
        have hcfz := (hbz.cell (p := ⟨g, j, none⟩) hgl).trans hcf
        generalize grow wr z = Y at *
        have HRY := Lib.hid (HR.out.keep hbz)
        have HIY := Lib.hid (His.out.keep hbz)
        have KUY := KU.keep hbz
        have HBY := Lib.hid (up HB.out hbz)
        have HVY := Lib.hid (HBV.out.trans (hbz.mono (by omega)))
        have hgY : g < Y.heap.size := HRY.out.lt
        clear KUl KUc KUf hcf hff hcp c1 hb hb2 KU
        go_wp2
        have pY := Put.cell Y g j (.int .i64 (x - y))
        have hset := HRY.out.set j (x - y)
        have hse := hset.is (by rw [List.length_set, hfl]; omega)
        rw [List.length_set, hfl] at hse
        exact ⟨⟨k + 1, by omega, by go_num, by rw [HK1.out]; exact hse, fun _ => ⟨g, rfl, hgU, by rw [HK1.out]; exact hset⟩, upP HBY.out pY (by omega), KUY.put pY (by omega), HVY.out.trans (pY.below hgU)⟩, by simp [intOf]; omega⟩
      · obtain rfl : k = u := by omega
        have Ho : Hid (freK P (bsL K l) p k = freK P (bsL K l) p p.length) := Lib.hid (by rw [Hu.out])
        rw [Ho.out] at his
        have HI := Lib.hid his
        clear his hrow
        go_wp2
        go_ret2
        exact ⟨_, rfl, ⟨FA, P.length, fc, rfl, ⟨hc2, Hcap.out⟩, HI.out, fun q hq => by have := Hfar.out q hq; omega⟩, HB.out⟩
end Go.Proofs.YtaieidigpilbfaaGreat

namespace Go.Proofs.YtaieidigpilbfaaGreat
open Go Go.RowKit
set_option maxHeartbeats 2000000
set_option maxRecDepth 100000

theorem ssE_0 {P : List Int} {K : List Kd} {l : List St} (h : ssE P K l = 0) : yOk P K = true ∧ l.length ≤ 40 ∧ ssOk K l = true := by
  unfold ssE at h
  cases hy : yOk P K
  · rw [hy] at h; simp at h
  · rw [hy, if_pos rfl] at h
    unfold err at h
    split at h
    · rename_i h2; simp at h2; exact ⟨rfl, h2⟩
    · omega
def thrE (P : List Int) (K : List Kd) (l : List St) (d : Int) : Int := orE [ssE P K l, err (inB d 0 100000) 6]
def lasE (P : List Int) (K : List Kd) (l : List St) (f : Int) : Int := orE [ssE P K l, err (inB f 0 1000000000000) 1]
theorem orE2_0 {a b : Int} (h : orE [a, b] = 0) : a = 0 ∧ b = 0 := by
  unfold orE at h
  split at h
  · rename_i h1
    unfold orE at h
    split at h
    · rename_i h2; exact ⟨h1, h2⟩
    · exact absurd h (by assumption)
  · exact absurd h (by assumption)
theorem err_0 {b : Bool} {n : Int} (h : err b n = 0) (hn : n ≠ 0) : b = true := by
  unfold err at h; split at h
  · assumption
  · exact absurd h hn

section
variable (A : Option Addr) (n c : Nat) (P : List Int) (B : Option Addr) (m d : Nat) (K : List Kd) (L : Option Addr) (r s : Nat) (l : List St) (dd : Int) (w : World) (hp : Is w A n P) (hg : Ks w B m K) (hl : Ss w L r l)
include hp hg hl
theorem There_any : Calls Tryz.prog 48 #[.agg #[.slice A n c, .slice B m d], .slice L r s, .int .i64 dd] w fun e w' => ∃ v, e = .returned (.tuple #[v, .int .i64 (thrE P K l dd)]) ∧ Lst w.heap.size w' v (if thrE P K l dd = 0 then thL l dd else []) ∧ Below w.heap.size w w' := by
  have Hp := Lib.hid hp; have Hg := Lib.hid hg; have Hl := Lib.hid hl
  clear hp hg hl
  have HT : Hid (thrE P K l dd = orE [ssE P K l, err (inB dd 0 100000) 6]) := Lib.hid rfl
  by_cases h0 : thrE P K l dd = 0
  · obtain ⟨h1, h2⟩ := orE2_0 (HT.out.symm.trans h0)
    have h40 := (ssE_0 h1).2.1
    have HE := Lib.hid h1; have HF := Lib.hid h2
    have HO : Hid (orE [0, 0] = 0) := Lib.hid rfl
    have HX : Hid ((if thrE P K l dd = 0 then thL l dd else []) = thL l dd) := Lib.hid (by rw [if_pos h0])
    have H0 := Lib.hid h0
    rw [HX.out, H0.out]
    clear h0 h1 h2 HT
    go_enter Tryz.func48, Tryz.ntmps48
    go_upto_region 1 with fail
    generalize hW : (World.alloc _ _) = W
    have HB : Hid (Below w.heap.size w W) := Lib.hid (by subst hW; go_grown)
    have KY : Bx W (w.heap.size) 25 [.slice A n c, .slice B m d] := by subst hW; repeat (first | (refine Bx.newAt _ _ _ ?_; first | rfl | (simp only [World.size_alloc]; done) | (simp only [World.size_alloc]; omega)) | refine Bx.old ?_ _)
    clear hW
    have KYl := KY.lt; have KYc := KY.get; have KYf := KY.fr
    go_wp2_with (first
      | (go_at_call 56; refine (checkStays_any _ _ _ P _ _ _ K _ _ _ l _ (Hp.out.keep HB.out) (Hg.out.keep HB.out) (Hl.out.keep HB.out)).mono ?_; rintro e X ⟨rfl, hbx⟩; rw [HE.out]; clear KYl KYc KYf; replace KY := KY.keep hbx; have KYl := KY.lt; have KYc := KY.get; have KYf := KY.fr; replace HB := Lib.hid (up HB.out hbx); clear hbx)
      | (go_at_call 108; refine (checkDay_any _ _).mono ?_; rintro e V ⟨rfl, rfl⟩; rw [HF.out])
      | (go_at_call 82; refine (Or_any _ _ _ [0, 0] _ (isC X 27 [0, 0] (by simp))).mono ?_; rintro e V ⟨rfl, rfl⟩; rw [HO.out]; replace HB := Lib.hid (up HB.out (up_alloc X (.cells ⟨ints [0, 0]⟩ 27))))
      | (go_at_call 109; refine (there_any L r s l dd _ (Hl.out.keep HB.out) (by omega)).mono ?_; rintro e V ⟨v, rfl, hO, hbv⟩; have HV := Lib.hid (hO.lst.mono HB.out.size); replace HB := Lib.hid (up HB.out hbv); clear hO hbv))
    go_ret2
    exact ⟨_, rfl, HV.out, HB.out⟩
  · have HX : Hid ((if thrE P K l dd = 0 then thL l dd else []) = []) := Lib.hid (by rw [if_neg h0])
    have hne : (thrE P K l dd != 0) = true := by simpa using h0
    rw [HX.out]
    clear h0 HX
    generalize hE : ssE P K l = E at *
    generalize hF : err (inB dd 0 100000) 6 = F at *
    have HE := Lib.hid hE; have HF := Lib.hid hF
    clear hE hF
    generalize thrE P K l dd = T at *
    go_enter Tryz.func48, Tryz.ntmps48
    go_upto_region 1 with fail
    generalize hW : (World.alloc _ _) = W
    have HB : Hid (Below w.heap.size w W) := Lib.hid (by subst hW; go_grown)
    have KY : Bx W (w.heap.size) 25 [.slice A n c, .slice B m d] := by subst hW; repeat (first | (refine Bx.newAt _ _ _ ?_; first | rfl | (simp only [World.size_alloc]; done) | (simp only [World.size_alloc]; omega)) | refine Bx.old ?_ _)
    clear hW
    have KYl := KY.lt; have KYc := KY.get; have KYf := KY.fr
    go_wp2_with (first
      | (go_at_call 56; refine (checkStays_any _ _ _ P _ _ _ K _ _ _ l _ (Hp.out.keep HB.out) (Hg.out.keep HB.out) (Hl.out.keep HB.out)).mono ?_; rintro e X ⟨rfl, hbx⟩; rw [HE.out]; clear KYl KYc KYf; replace KY := KY.keep hbx; have KYl := KY.lt; have KYc := KY.get; have KYf := KY.fr; replace HB := Lib.hid (up HB.out hbx); clear hbx)
      | (go_at_call 108; refine (checkDay_any _ _).mono ?_; rintro e V ⟨rfl, rfl⟩; rw [HF.out])
      | (go_at_call 82; refine (Or_any _ _ _ [E, F] _ (isC X 27 [E, F] (by simp))).mono ?_; rintro e V ⟨rfl, rfl⟩; rw [← HT.out]; replace HB := Lib.hid (up HB.out (up_alloc X (.cells ⟨ints [E, F]⟩ 27)))))
    go_ret2
    exact ⟨.slice none 0 0, rfl, Lst.nil _ _, HB.out⟩
theorem Eaten_any : Calls Tryz.prog 52 #[.agg #[.slice A n c, .slice B m d], .slice L r s, .int .i64 dd] w fun e w' => e = .returned (.tuple #[.int .i64 (if thrE P K l dd = 0 then eatL K l dd else 0), .int .i64 (thrE P K l dd)]) ∧ Below w.heap.size w w' := by
  have Hp := Lib.hid hp; have Hg := Lib.hid hg; have Hl := Lib.hid hl
  clear hp hg hl
  have HT : Hid (thrE P K l dd = orE [ssE P K l, err (inB dd 0 100000) 6]) := Lib.hid rfl
  by_cases h0 : thrE P K l dd = 0
  · obtain ⟨h1, h2⟩ := orE2_0 (HT.out.symm.trans h0)
    obtain ⟨hy, h40, hss⟩ := ssE_0 h1
    have Hss := Lib.hid hss
    have HK := Lib.hid (yOk_k hy).2.2
    have hd := inB_iff.1 (err_0 h2 (by decide))
    have HE := Lib.hid h1; have HF := Lib.hid h2
    have HO : Hid (orE [0, 0] = 0) := Lib.hid rfl
    have HX : Hid ((if thrE P K l dd = 0 then eatL K l dd else 0) = eatL K l dd) := Lib.hid (by rw [if_pos h0])
    have H0 := Lib.hid h0
    rw [HX.out, H0.out]
    clear h0 h1 h2 HT hss hy
    go_enter Tryz.func52, Tryz.ntmps52
    go_upto_region 1 with fail
    generalize hW : (World.alloc _ _) = W
    have HB : Hid (Below w.heap.size w W) := Lib.hid (by subst hW; go_grown)
    have KY : Bx W (w.heap.size) 25 [.slice A n c, .slice B m d] := by subst hW; repeat (first | (refine Bx.newAt _ _ _ ?_; first | rfl | (simp only [World.size_alloc]; done) | (simp only [World.size_alloc]; omega)) | refine Bx.old ?_ _)
    clear hW
    have KYl := KY.lt; have KYc := KY.get; have KYf := KY.fr
    go_wp2_with (first
      | (go_at_call 56; refine (checkStays_any _ _ _ P _ _ _ K _ _ _ l _ (Hp.out.keep HB.out) (Hg.out.keep HB.out) (Hl.out.keep HB.out)).mono ?_; rintro e X ⟨rfl, hbx⟩; rw [HE.out]; clear KYl KYc KYf; replace KY := KY.keep hbx; have KYl := KY.lt; have KYc := KY.get; have KYf := KY.fr; replace HB := Lib.hid (up HB.out hbx); clear hbx)
      | (go_at_call 108; refine (checkDay_any _ _).mono ?_; rintro e V ⟨rfl, rfl⟩; rw [HF.out])
      | (go_at_call 82; have hba := up_alloc X (.cells ⟨ints [0, 0]⟩ 27); refine (Or_any _ _ _ [0, 0] _ (isC X 27 [0, 0] (by simp))).mono ?_; rintro e V ⟨rfl, rfl⟩; rw [HO.out]; clear KYl KYc KYf; replace KY := KY.keep hba; have KYl := KY.lt; have KYc := KY.get; have KYf := KY.fr; replace HB := Lib.hid (up HB.out hba); clear hba)
      | (go_at_call 116; refine (eatenP_any A n c B m d K L r s l dd _ (Hg.out.keep HB.out) (Hl.out.keep HB.out) HK.out Hss.out h40 hd).mono ?_; rintro e V ⟨rfl, hbv⟩; replace HB := Lib.hid (up HB.out hbv); clear hbv))
    go_ret2
    exact ⟨rfl, HB.out⟩
  · have HX : Hid ((if thrE P K l dd = 0 then eatL K l dd else 0) = 0) := Lib.hid (by rw [if_neg h0])
    have hne : (thrE P K l dd != 0) = true := by simpa using h0
    rw [HX.out]
    clear h0 HX
    generalize hE : ssE P K l = E at *
    generalize hF : err (inB dd 0 100000) 6 = F at *
    have HE := Lib.hid hE; have HF := Lib.hid hF
    clear hE hF
    generalize thrE P K l dd = T at *
    go_enter Tryz.func52, Tryz.ntmps52
    go_upto_region 1 with fail
    generalize hW : (World.alloc _ _) = W
    have HB : Hid (Below w.heap.size w W) := Lib.hid (by subst hW; go_grown)
    have KY : Bx W (w.heap.size) 25 [.slice A n c, .slice B m d] := by subst hW; repeat (first | (refine Bx.newAt _ _ _ ?_; first | rfl | (simp only [World.size_alloc]; done) | (simp only [World.size_alloc]; omega)) | refine Bx.old ?_ _)
    clear hW
    have KYl := KY.lt; have KYc := KY.get; have KYf := KY.fr
    go_wp2_with (first
      | (go_at_call 56; refine (checkStays_any _ _ _ P _ _ _ K _ _ _ l _ (Hp.out.keep HB.out) (Hg.out.keep HB.out) (Hl.out.keep HB.out)).mono ?_; rintro e X ⟨rfl, hbx⟩; rw [HE.out]; clear KYl KYc KYf; replace KY := KY.keep hbx; have KYl := KY.lt; have KYc := KY.get; have KYf := KY.fr; replace HB := Lib.hid (up HB.out hbx); clear hbx)
      | (go_at_call 108; refine (checkDay_any _ _).mono ?_; rintro e V ⟨rfl, rfl⟩; rw [HF.out])
      | (go_at_call 82; refine (Or_any _ _ _ [E, F] _ (isC X 27 [E, F] (by simp))).mono ?_; rintro e V ⟨rfl, rfl⟩; rw [← HT.out]; replace HB := Lib.hid (up HB.out (up_alloc X (.cells ⟨ints [E, F]⟩ 27)))))
    go_ret2
    exact ⟨rfl, HB.out⟩
end
end Go.Proofs.YtaieidigpilbfaaGreat

namespace Go.Proofs.YtaieidigpilbfaaGreat
open Go Go.RowKit
set_option maxHeartbeats 2000000
set_option maxRecDepth 100000

/-- The first pen from i on, of f, in which the beast may stand. -/
def addK (ap st : List Int) (k : Kd) : Nat → Nat → Option Nat
  | 0, _ => none
  | f + 1, i => if fullS ap st k i = true then addK ap st k f (i + 1) else some i
def adS (P : List Int) (K : List Kd) (l p : List Int) : List Int := (standS P (apL K) (bsL K l) p).getD ap0
def adP (P : List Int) (K : List Kd) (l p : List Int) (s : Int) : Option Nat := addK (apL K) (adS P K l p) (kdD K s) P.length 0
def adT (P : List Int) (K : List Kd) (l p : List Int) (s : Int) : Int := orE [plE P K l p, err (kdI K s) 51, err (decide ((l.length : Int) < 8)) 2]
def adV (P : List Int) (K : List Kd) (l p : List Int) (s : Int) : Int := if adT P K l p s = 0 then (((adP P K l p s).getD 0 : Nat) : Int) else 0
def adE (P : List Int) (K : List Kd) (l p : List Int) (s : Int) : Int := if adT P K l p s = 0 then (if (adP P K l p s).isSome = true then 0 else 53) else adT P K l p s
theorem orE3_0 {a b c : Int} (h : orE [a, b, c] = 0) : a = 0 ∧ b = 0 ∧ c = 0 := by
  unfold orE at h
  split at h
  · rename_i h1; exact ⟨h1, orE2_0 h⟩
  · exact absurd h (by assumption)
theorem placed_gen (A : Option Addr) (n c : Nat) (P : List Int) (B : Option Addr) (m d : Nat) (K : List Kd) (L : Option Addr) (r s : Nat) (l : List Int) (C : Option Addr) (u v : Nat) (p : List Int) (w : World)
    (hp : Is w A n P) (hg : Ks w B m K) (hl : Is w L r l) (hc : Is w C u p) :
    Calls Tryz.prog 79 #[.agg #[.slice A n c, .slice B m d], .slice L r s, .slice C u v] w fun e w' => ∃ (A' : Option Addr) (n' c' : Nat) (B' : Option Addr) (m' d' : Nat) (ap st : List Int), ap.length = 10 ∧ st.length = 10 ∧ e = .returned (.tuple #[.agg ⟨ldL A' n' c' (.slice B' m' d') ap⟩, .agg ⟨ints st⟩, .int .i64 (plE P K l p)]) ∧ Below w.heap.size w w' := by
  by_cases h : plE P K l p = 0
  · obtain ⟨h0, st, hS⟩ := plE_ok h
    obtain ⟨hy, h8, hlo⟩ := sE_0 h0
    obtain ⟨h5, hP, hK⟩ := yOk_k hy
    obtain ⟨hpl, -⟩ := standS_in hS
    have hst10 : st.length = 10 := by
      have := hS
      rw [standS_eq hpl] at this
      exact (standK_ok hP (bsL_good hK hlo) _ _ (by omega) this).1
    rw [h]
    refine (placed_ok A n c P B m d K L r s l C u v p w hp hg hl hc h0 hS).mono ?_
    rintro e w' ⟨B', c', rfl, _, _, hb⟩
    exact ⟨_, _, _, _, _, _, _, _, apL_len K, hst10, rfl, hb⟩
  · refine (placed_bad A n c P B m d K L r s l C u v p w hp hg hl hc h).mono ?_
    rintro e w' ⟨rfl, hb⟩
    exact ⟨_, _, _, _, _, _, _, _, rfl, rfl, rfl, hb⟩

theorem Add_any (A : Option Addr) (n c : Nat) (P : List Int) (B : Option Addr) (m d : Nat) (K : List Kd) (L : Option Addr) (r s : Nat) (l : List Int) (C : Option Addr) (u v : Nat) (p : List Int) (x : Int) (w : World)
    (hp : Is w A n P) (hg : Ks w B m K) (hl : Is w L r l) (hc : Is w C u p) :
    Calls Tryz.prog 34 #[.agg #[.slice A n c, .slice B m d], .slice L r s, .slice C u v, .int .i64 x] w fun e w' => e = .returned (.tuple #[.int .i64 (adV P K l p x), .int .i64 (adE P K l p x)]) ∧ Below w.heap.size w w' := by
  have Hr : Hid (r = l.length) := Lib.hid hl.len
  have hrx := hl.small
  have Hp := Lib.hid hp; have Hg := Lib.hid hg; have Hl := Lib.hid hl; have Hc := Lib.hid hc
  have Hn : Hid (n = P.length) := Lib.hid hp.len
  have HT : Hid (adT P K l p x = orE [plE P K l p, err (kdI K x) 51, err (decide ((l.length : Int) < 8)) 2]) := Lib.hid rfl
  clear hp hg hl hc
  by_cases h0 : adT P K l p x = 0
  rotate_left
  · have hne : (adT P K l p x != 0) = true := by simpa using h0
    have HV : Hid (adV P K l p x = 0) := Lib.hid (by unfold adV; rw [if_neg h0])
    have HE0 : Hid (adE P K l p x = adT P K l p x) := Lib.hid (by unfold adE; rw [if_neg h0])
    rw [HV.out, HE0.out]
    clear h0 HV HE0
    have HPl : Hid (∀ W, Below w.heap.size w W → Calls Tryz.prog 79 #[.agg #[.slice A n c, .slice B m d], .slice L r s, .slice C u v] W fun e w' => ∃ (A' : Option Addr) (n' c' : Nat) (B' : Option Addr) (m' d' : Nat) (ap st : List Int), ap.length = 10 ∧ st.length = 10 ∧ e = .returned (.tuple #[.agg ⟨ldL A' n' c' (.slice B' m' d') ap⟩, .agg ⟨ints st⟩, .int .i64 (plE P K l p)]) ∧ Below W.heap.size W w') := Lib.hid (fun W hW => placed_gen A n c P B m d K L r s l C u v p W (Hp.out.keep hW) (Hg.out.keep hW) (Hl.out.keep hW) (Hc.out.keep hW))
    have HF0 : Hid (err (lOk K [x]) 51 = err (kdI K x) 51) := Lib.hid (by rw [lOk1])
    have HG0 : Hid (err (decide ((r : Int) < 8)) 2 = err (decide ((l.length : Int) < 8)) 2) := Lib.hid (by rw [Hr.out])
    generalize plE P K l p = E at *
    generalize err (kdI K x) 51 = F at *
    generalize err (decide ((l.length : Int) < 8)) 2 = G at *
    generalize adT P K l p x = T at *
    go_enter Tryz.func34, Tryz.ntmps34
    go_upto_region 1 with fail
    generalize hW : (World.alloc _ _) = W
    have HB : Hid (Below w.heap.size w W) := Lib.hid (by subst hW; go_grown)
    have KY : Bx W (w.heap.size) 25 [.slice A n c, .slice B m d] := by subst hW; repeat (first | (refine Bx.newAt _ _ _ ?_; first | rfl | (simp only [World.size_alloc]; done) | (simp only [World.size_alloc]; omega)) | refine Bx.old ?_ _)
    clear hW
    have KYl := KY.lt; have KYc := KY.get; have KYf := KY.fr
    go_upto_region 2 with (first
      | (go_at_call 79; refine (HPl.out _ HB.out).mono ?_; rintro e X ⟨A', n', c', B', m', d', ap, st, hap, hst, rfl, hbx⟩; clear KYl KYc KYf; replace KY := KY.keep hbx; have KYl := KY.lt; have KYc := KY.get; have KYf := KY.fr; replace HB := Lib.hid (up HB.out hbx); clear hbx)
      | (refine wpList_put 83 10 24 rfl rfl (Bx.old (Bx.new X _ 83) _) rfl rfl (sL83 hap) (sLo hap) ldL_one ?_; intro U KU hp; have KI : Bx U (X.heap.size + 1) 107 (ints ap0) := (Bx.newAt _ _ _ (by rw [World.size_alloc])).put hp (by omega); have hbu := upP ((up_alloc X _).trans ((up_alloc _ _).mono (by rw [World.size_alloc]; omega))) hp (by omega); have KIl := KI.lt; have KIc := KI.get; have KIf := KI.fr)
      | (refine wpList_put 107 11 25 rfl rfl KI rfl rfl (sI107 hst) (sIo hst) (ints_one _) ?_; intro U2 KI2 hp2; have hbu2 := upP hbu hp2 (by omega); clear KI KIl KIc KIf KU hbu hp2 KI2; clear KYl KYc KYf; replace KY := KY.keep hbu2; have KYl := KY.lt; have KYc := KY.get; have KYf := KY.fr; replace HB := Lib.hid (up HB.out hbu2); clear hbu2))
    have hba := up_alloc U2 (.cells #[.int .i64 x] 3)
    have HL : Hid (Is (U2.alloc (.cells #[.int .i64 x] 3)) (some ⟨U2.heap.size, 0, none⟩) 1 [x]) := Lib.hid (isC U2 3 [x] (by simp))
    have HG2 := Lib.hid ((Hg.out.keep HB.out).keep hba)
    have HBa := Lib.hid (up HB.out hba)
    clear hba
    go_wp2_with (first
      | (go_at_call 66; refine (checkKinds_any A n c B m d K _ 1 1 [x] _ HG2.out HL.out).mono ?_; rintro e V ⟨rfl, hbv⟩; rw [HF0.out]; have HBV := Lib.hid (up HBa.out hbv); clear hbv)
      | (go_at_call 76; refine (unless_any _ _ _).mono ?_; rintro e w' ⟨rfl, rfl⟩; rw [HG0.out])
      | (go_at_call 82; refine (Or_any _ _ _ [E, F, G] _ (isC V 27 [E, F, G] (by simp))).mono ?_; rintro e V3 ⟨rfl, rfl⟩; rw [← HT.out]; have HBZ := Lib.hid (up HBV.out (up_alloc V (.cells ⟨ints [E, F, G]⟩ 27)))))
    go_ret2
    exact ⟨rfl, HBZ.out⟩
  · obtain ⟨h1, h2, h3⟩ := orE3_0 (HT.out.symm.trans h0)
    obtain ⟨hs0, st, hst⟩ := plE_ok h1
    obtain ⟨hpl, -⟩ := standS_in hst
    obtain ⟨hy, h8, hlo⟩ := sE_0 hs0
    obtain ⟨h5, hP, hK⟩ := yOk_k hy
    have hap := apL_len K
    have hst2 := hst
    rw [standS_eq hpl] at hst2
    obtain ⟨hst10, hsm⟩ := standK_ok hP (bsL_good hK hlo) _ _ (by omega) hst2
    have hki := err_0 h2 (by decide)
    have HAd : Hid (adP P K l p x = addK (apL K) st (kdD K x) P.length 0) := Lib.hid (by unfold adP adS; rw [hst]; rfl)
    have HV : Hid (adV P K l p x = (((adP P K l p x).getD 0 : Nat) : Int)) := Lib.hid (by unfold adV; rw [if_pos h0])
    have HE0 : Hid (adE P K l p x = if (adP P K l p x).isSome = true then 0 else 53) := Lib.hid (by unfold adE; rw [if_pos h0])
    have HF0 : Hid (err (lOk K [x]) 51 = 0) := Lib.hid (by rw [lOk1, hki]; rfl)
    have HG0 : Hid (err (decide ((r : Int) < 8)) 2 = 0) := Lib.hid (by rw [Hr.out]; exact h3)
    have HOr : Hid (orE [0, 0, 0] = 0) := Lib.hid rfl
    have Hsm := Lib.hid hsm
    have hn5 : n ≤ 5 := by rw [Hn.out]; exact h5
    have hkd : (1 ≤ (kdD K x).s ∧ (kdD K x).s ≤ 9) ∧ (0 ≤ (kdD K x).r ∧ (kdD K x).r ≤ 1000) := by
      cases hk : kd? K x with
      | none => rw [(kdD_none hk).2] at hki; cases hki
      | some q =>
        rw [(kdD_some hk).1]
        have := kdOk_iff.1 (ksOk_kd hK q (kd_mem hk).1)
        omega
    have HS0 := Lib.hid hs0; have HSt := Lib.hid hst
    clear HT h0 h1 h2 h3 hs0 hst hst2 hpl hy h8 hlo hP hK hsm hki
    generalize adP P K l p x = AD at *
    go_enter Tryz.func34, Tryz.ntmps34
    go_upto_region 1 with fail
    generalize hW : (World.alloc _ _) = W
    have HB : Hid (Below w.heap.size w W) := Lib.hid (by subst hW; go_grown)
    have KY : Bx W (w.heap.size) 25 [.slice A n c, .slice B m d] := by subst hW; repeat (first | (refine Bx.newAt _ _ _ ?_; first | rfl | (simp only [World.size_alloc]; done) | (simp only [World.size_alloc]; omega)) | refine Bx.old ?_ _)
    clear hW
    have KYl := KY.lt; have KYc := KY.get; have KYf := KY.fr
    go_upto_region 2 with (first
      | (go_at_call 79; refine (placed_ok A n c P B m d K L r s l C u v p _ (Hp.out.keep HB.out) (Hg.out.keep HB.out) (Hl.out.keep HB.out) (Hc.out.keep HB.out) HS0.out HSt.out).mono ?_; rintro e X ⟨B', c', rfl, hlc, hks, hbx⟩; have hwx := KY.lt; have hxs := hbx.size; clear hks; clear KYl KYc KYf; replace KY := KY.keep hbx; have KYl := KY.lt; have KYc := KY.get; have KYf := KY.fr; replace HB := Lib.hid (up HB.out hbx); clear hbx)
      | (refine wpList_put 83 10 24 rfl rfl (Bx.old (Bx.new X _ 83) _) rfl rfl (sL83 hap) (sLo hap) ldL_one ?_; intro U KU hp; have KI : Bx U (X.heap.size + 1) 107 (ints ap0) := (Bx.newAt _ _ _ (by rw [World.size_alloc])).put hp (by omega); have hbu := upP ((up_alloc X _).trans ((up_alloc _ _).mono (by rw [World.size_alloc]; omega))) hp (by omega); have KIl := KI.lt; have KIc := KI.get; have KIf := KI.fr)
      | (refine wpList_put 107 11 25 rfl rfl KI rfl rfl (sI107 hst10) (sIo hst10) (ints_one _) ?_; intro U2 KI2 hp2; have KU2 := KU.put hp2 (by omega); have hbu2 := upP hbu hp2 (by omega); clear KI KIl KIc KIf KU hbu hp2; clear KYl KYc KYf; replace KY := KY.keep hbu2; have KYl := KY.lt; have KYc := KY.get; have KYf := KY.fr; replace HB := Lib.hid (up HB.out hbu2); clear hbu2))
    have hba := up_alloc U2 (.cells #[.int .i64 x] 3)
    have HL : Hid (Is (U2.alloc (.cells #[.int .i64 x] 3)) (some ⟨U2.heap.size, 0, none⟩) 1 [x]) := Lib.hid (isC U2 3 [x] (by simp))
    have HG2 := Lib.hid ((Hg.out.keep HB.out).keep hba)
    have HBa := Lib.hid (up HB.out hba)
    have KYa := KY.keep hba; have KUa := KU2.keep hba; have KIa := KI2.keep hba
    clear hba KU2 KI2
    go_upto_region 5 with (first
      | (go_at_call 66; refine (checkKinds_any A n c B m d K _ 1 1 [x] _ HG2.out HL.out).mono ?_; rintro e V ⟨rfl, hbv⟩; rw [HF0.out]; have HBV := Lib.hid (up HBa.out hbv); have KYV := KYa.keep hbv; have KUV := KUa.keep hbv; have KIV := KIa.keep hbv; have HG3 := Lib.hid (HG2.out.keep hbv); clear hbv KY KYl KYc KYf KYa KUa KIa HG2)
      | (go_at_call 76; refine (unless_any _ _ _).mono ?_; rintro e w' ⟨rfl, rfl⟩; rw [HG0.out])
      | (go_at_call 82; have hbo := up_alloc V (.cells ⟨ints [0, 0, 0]⟩ 27); refine (Or_any _ _ _ [0, 0, 0] _ (isC V 27 [0, 0, 0] (by simp))).mono ?_; rintro e V3 ⟨rfl, rfl⟩; rw [HOr.out]; have HBZ := Lib.hid (up HBV.out hbo); have KYZ := KYV.keep hbo; have KUZ := KUV.keep hbo; have KIZ := KIV.keep hbo; have HGZ := Lib.hid (HG3.out.keep hbo); clear hbo KYV KUV KIV HG3; have KYZl := KYZ.lt; have KYZc := KYZ.get; have KYZf := KYZ.fr))
    generalize V.alloc (.cells ⟨ints [0, 0, 0]⟩ 27) = Z at *
    generalize hkq : kdD K x = q at *
    have Hkq := Lib.hid hkq
    clear hkq HL HBa HBV
    go_wp2_with (first
      | (go_at_call 84; refine (kindOf_any A n c B m d K x _ HGZ.out).mono ?_; rw [Hkq.out]; rintro e Y ⟨rfl, hby⟩; have HBY := Lib.hid (up HBZ.out hby); have KYY := KYZ.keep hby; have KUY := KUZ.keep hby; have KIY := KIZ.keep hby; clear hby KYZ KYZl KYZc KYZf KUZ KIZ HGZ)
      | (refine wpList_putNew 72 14 45 rfl rfl rfl rfl (by kernel_rfl) rfl (by simp [Value.oneCell']) ?_; intro T KK hbt hst; have HBT := Lib.hid (up HBY.out hbt); have KYT := KYY.keep hbt; have KUT := KUY.keep hbt; have KIT := KIY.keep hbt; clear hbt KYY KUY KIY; have KYTl := KYT.lt; have KYTc := KYT.get; have KYTf := KYT.fr))
    clear KYTl KYTc KYTf KYT
    have hTs : Y.heap.size < T.heap.size := KK.lt
    go_loopw [50] (fun i wr => ∃ (k : Nat), k ≤ n ∧ i = .int .i64 k ∧ Below w.heap.size w wr ∧ Bx wr X.heap.size 83 (ldL A n c (.slice B' l.length c') (apL K)) ∧ Bx wr (X.heap.size + 1) 107 (ints st) ∧ Bx wr Y.heap.size 72 [.int .i64 q.s, .int .i64 q.r, .int .i64 q.e, .int .i64 q.a] ∧ addK (apL K) st q (n - k) k = AD) (fun i _ => n - (intOf i).toNat)
    case atStart => exact ⟨0, by omega, rfl, HBT.out, KUT, KIT, KK, by rw [HAd.out, Hn.out]; rfl⟩
    case round =>
      clear KUT KIT KK HBT HAd
      obtain ⟨k, hk, rfl, hb, KU, KI, KK, hp⟩ := hrel
      have HB2 := Lib.hid hb; have Hp2 := Lib.hid hp
      clear hb hp
      by_cases hlt : k < n
      · have hk5 : k < 5 := by omega
        have HK : Hid (addK (apL K) st q (n - k) k = if fullS (apL K) st q k = true then addK (apL K) st q (n - (k + 1)) (k + 1) else some k) := Lib.hid (by rw [show n - k = (n - (k + 1)) + 1 by omega]; rfl)
        have hsmk := Hsm.out k hk5
        cases hF : fullS (apL K) st q k
        · have HF := Lib.hid hF
          have HA2 : Hid (AD = some k) := Lib.hid (by rw [← Hp2.out, HK.out, hF]; rfl)
          have hadl : (addS st q k).length = 10 := by rw [addS_len]; exact hst10
          clear hF HK
          go_wp2_with (first
            | (refine wpList_get 83 10 rfl rfl KU rfl Tryz.underlying83 rfl (sL83' hap) ?_)
            | (refine wpList_get 107 11 rfl rfl KI rfl Tryz.underlying107 rfl (sI107' hst10) ?_)
            | (refine wpList_get 72 14 rfl rfl KK rfl Tryz.underlying72 rfl (by kernel_rfl) ?_)
            | (go_at_call 85; refine (put_ok A n c B' l.length c' (apL K) st q k _ hap hst10 hk5 hkd.1 hkd.2 (by omega) HF.out).mono ?_; rintro e R ⟨rfl, hbr⟩; have HBR := Lib.hid (up HB2.out hbr); clear hbr)
            | (refine wpList_putNew 107 17 59 rfl rfl rfl rfl (sI107 hadl) (sIo hadl) (ints_one _) ?_; intro T2 KN hbt hst; have HBT2 := Lib.hid (up HBR.out hbt); clear hbt))
          go_ret2
          exact ⟨by rw [HV.out, HE0.out, HA2.out]; rfl, HBT2.out⟩
        · have HF := Lib.hid hF
          have HA2 : Hid (addK (apL K) st q (n - (k + 1)) (k + 1) = AD) := Lib.hid (by rw [← Hp2.out, HK.out, hF]; rfl)
          clear hF HK
          go_wp2_with (first
            | (refine wpList_get 83 10 rfl rfl KU rfl Tryz.underlying83 rfl (sL83' hap) ?_)
            | (refine wpList_get 107 11 rfl rfl KI rfl Tryz.underlying107 rfl (sI107' hst10) ?_)
            | (refine wpList_get 72 14 rfl rfl KK rfl Tryz.underlying72 rfl (by kernel_rfl) ?_)
            | (go_at_call 85; refine (put_no A n c B' l.length c' (apL K) st q k _ hap hst10 hk5 hkd.1 HF.out).mono ?_; rintro e R ⟨rfl, hbr⟩; have HBR := Lib.hid (up HB2.out hbr); have KUR := KU.keep hbr; have KIR := KI.keep hbr; have KKR := KK.keep hbr; clear hbr)
            | (refine wpList_putNew 107 17 59 rfl rfl rfl rfl (sI107 (l := ap0) rfl) (sIo (l := ap0) rfl) (ints_one _) ?_; intro T2 KN hbt hst; have HBT2 := Lib.hid (up HBR.out hbt); have KUT := KUR.keep hbt; have KIT := KIR.keep hbt; have KKT := KKR.keep hbt; clear hbt))
          exact ⟨⟨k + 1, by omega, by go_num, HBT2.out, KUT, KIT, KKT, HA2.out⟩, by simp [intOf]; omega⟩
      · obtain rfl : k = n := by omega
        have HA2 : Hid (AD = none) := Lib.hid (by rw [← Hp2.out, Nat.sub_self]; rfl)
        go_wp2
        go_ret2
        exact ⟨by rw [HV.out, HE0.out, HA2.out]; rfl, HB2.out⟩
end Go.Proofs.YtaieidigpilbfaaGreat

namespace Go.Proofs.YtaieidigpilbfaaGreat
open Go Go.RowKit
set_option maxHeartbeats 2000000
set_option maxRecDepth 100000

theorem eatR_mono {K : List Kd} (hK : ksOk K = true) (x : St) {a b : Int} (h : a ≤ b) : eatR K x a ≤ eatR K x b := by
  have h2 := kdD_e hK x.s
  unfold eatR
  refine Int.mul_le_mul_of_nonneg_left ?_ h2.1
  unfold lastD
  split <;> omega
theorem eatK_mono {K : List Kd} (hK : ksOk K = true) (l : List St) {a b : Int} (h : a ≤ b) : ∀ k, eatK K l a k ≤ eatK K l b k := by
  intro k
  induction k with
  | zero => exact Int.le_refl _
  | succ k ih => rw [eatK, eatK]; have := eatR_mono hK (l.getD k st00) h; omega
theorem eatL_mono {K : List Kd} (hK : ksOk K = true) (l : List St) {a b : Int} (h : a ≤ b) : eatL K l a ≤ eatL K l b := eatK_mono hK l h _
/-- The last day for which fodder lasts, and its error. -/
def LasP (K : List Kd) (l : List St) (f v e : Int) : Prop := (e = 3 ∧ v = 0 ∧ f < eatL K l 0) ∨ (e = 0 ∧ (0 ≤ v ∧ v ≤ 100000) ∧ eatL K l v ≤ f ∧ (v < 100000 → f < eatL K l (v + 1)))
theorem LasP.one {K : List Kd} {l : List St} {f v e v2 e2 : Int} (hK : ksOk K = true) (h : LasP K l f v e) (h2 : LasP K l f v2 e2) : v = v2 ∧ e = e2 := by
  rcases h with ⟨rfl, rfl, h⟩ | ⟨rfl, hv, ha, hb⟩ <;> rcases h2 with ⟨rfl, rfl, h2⟩ | ⟨rfl, hv2, ha2, hb2⟩
  · exact ⟨rfl, rfl⟩
  · have := eatL_mono hK l (a := 0) (b := v2) hv2.1; omega
  · have := eatL_mono hK l (a := 0) (b := v) hv.1; omega
  · refine ⟨?_, rfl⟩
    rcases Int.lt_trichotomy v v2 with h3 | h3 | h3
    · have := eatL_mono hK l (a := v + 1) (b := v2) (by omega); have := hb (by omega); omega
    · exact h3
    · have := eatL_mono hK l (a := v2 + 1) (b := v) (by omega); have := hb2 (by omega); omega

theorem lasts1_any (A : Option Addr) (n c : Nat) (B : Option Addr) (m d : Nat) (K : List Kd) (L : Option Addr) (r s : Nat) (l : List St) (f : Int) (i q1 q2 q3 : Nat) (w : World) (hg : Ks w B m K) (hl : Ss w L r l) (hK : ksOk K = true) (hs : ssOk K l = true) (h40 : l.length ≤ 40) (hi : i < 100001)
    (k1 : Bx w q1 25 [.slice A n c, .slice B m d]) (k2 : Bx w q2 58 [.slice L r s]) (k3 : Bx w q3 3 [.int .i64 f]) :
    Calls Tryz.prog 120 #[.int .i64 (i : Int), .pointer (some ⟨q1, 0, none⟩), .pointer (some ⟨q2, 0, none⟩), .pointer (some ⟨q3, 0, none⟩)] w fun e w' => e = .returned (.bool (decide (f < eatL K l (i : Int)))) ∧ Below w.heap.size w w' := by
  have HE : Hid (∀ z, Calls Tryz.prog 116 #[.agg #[.slice A n c, .slice B m d], .slice L r s, .int .i64 (i : Int)] (grow w z) fun e w' => e = .returned (.int .i64 (eatL K l (i : Int))) ∧ Below (grow w z).heap.size (grow w z) w') :=
    Lib.hid (fun z => eatenP_any A n c B m d K L r s l (i : Int) (grow w z) (hg.keep (grow_below w z)) (hl.keep (grow_below w z)) hK hs h40 (by omega))
  generalize eatL K l (i : Int) = E at *
  clear hg hl hK hs
  have k1l := k1.lt; have k1c := k1.get; have k1f := k1.fr; have k2l := k2.lt; have k2c := k2.get; have k2f := k2.fr; have k3l := k3.lt; have k3c := k3.get; have k3f := k3.fr
  go_enter Tryz.func120, Tryz.ntmps120
  go_upto_region 1 with fail
  refine wp_region_grow (by kernel_rfl) (by kernel_rfl) ?_
  repeat (go_big_quiet_step (((go_at_call 116; exact quiet_grow rfl (HE.out _)))))
  refine wpQuiet_nil ?_
  intro z
  have hB := grow_below w z
  generalize grow w z = V at *
  clear k1l k1c k1f k2l k2c k2f k3l k3c k3f
  go_wp2
  go_ret
  exact ⟨rfl, hB⟩

theorem Lasts_any (A : Option Addr) (n c : Nat) (P : List Int) (B : Option Addr) (m d : Nat) (K : List Kd) (L : Option Addr) (r s : Nat) (l : List St) (f : Int) (w : World) (hp : Is w A n P) (hg : Ks w B m K) (hl : Ss w L r l) :
    Calls Tryz.prog 54 #[.agg #[.slice A n c, .slice B m d], .slice L r s, .int .i64 f] w fun e w' => ∃ v x, e = .returned (.tuple #[.int .i64 v, .int .i64 x]) ∧ ((lasE P K l f ≠ 0 ∧ v = 0 ∧ x = lasE P K l f) ∨ (lasE P K l f = 0 ∧ LasP K l f v x)) ∧ Below w.heap.size w w' := by
  have Hp := Lib.hid hp; have Hg := Lib.hid hg; have Hl := Lib.hid hl
  clear hp hg hl
  have HT : Hid (lasE P K l f = orE [ssE P K l, err (inB f 0 1000000000000) 1]) := Lib.hid rfl
  generalize hE : ssE P K l = E at *
  generalize hF : err (inB f 0 1000000000000) 1 = F at *
  have HE := Lib.hid hE; have HF := Lib.hid hF
  clear hE hF
  have HS : Hid (∀ W, Below w.heap.size w W → Calls Tryz.prog 56 #[.agg #[.slice A n c, .slice B m d], .slice L r s] W fun e w' => e = .returned (.int .i64 E) ∧ Below W.heap.size W w') := Lib.hid (fun W hW => by
    rw [← HE.out]; exact checkStays_any A n c P B m d K L r s l W (Hp.out.keep hW) (Hg.out.keep hW) (Hl.out.keep hW))
  have HD : Hid (∀ W, Calls Tryz.prog 118 #[.int .i64 f] W fun e w' => e = .returned (.int .i64 F) ∧ Below W.heap.size W w') := Lib.hid (fun W => by
    rw [← HF.out]; exact still_grow (checkFodder_any f W))
  by_cases h0 : lasE P K l f = 0
  rotate_left
  · have hne : (lasE P K l f != 0) = true := by simpa using h0
    have Hn := Lib.hid h0
    clear h0
    generalize lasE P K l f = T at *
    go_enter Tryz.func54, Tryz.ntmps54
    go_upto_region 1 with fail
    generalize hW : (World.alloc _ _) = W
    have HB : Hid (Below w.heap.size w W) := Lib.hid (by subst hW; go_grown)
    have KY : Bx W (w.heap.size) 25 [.slice A n c, .slice B m d] := by subst hW; repeat (first | (refine Bx.newAt _ _ _ ?_; first | rfl | (simp only [World.size_alloc]; done) | (simp only [World.size_alloc]; omega)) | refine Bx.old ?_ _)
    have KS : Bx W (w.heap.size + 1) 58 [.slice L r s] := by subst hW; repeat (first | (refine Bx.newAt _ _ _ ?_; first | rfl | (simp only [World.size_alloc]; done) | (simp only [World.size_alloc]; omega)) | refine Bx.old ?_ _)
    have KF : Bx W (w.heap.size + 1 + 1) 3 [.int .i64 f] := by subst hW; repeat (first | (refine Bx.newAt _ _ _ ?_; first | rfl | (simp only [World.size_alloc]; done) | (simp only [World.size_alloc]; omega)) | refine Bx.old ?_ _)
    clear hW
    have KYl := KY.lt; have KYc := KY.get; have KYf := KY.fr; have KSl := KS.lt; have KSc := KS.get; have KSf := KS.fr; have KFl := KF.lt; have KFc := KF.get; have KFf := KF.fr
    refine wp_region_grow_tail 5 (by kernel_rfl) (by kernel_rfl) ?_
    simp only [List.take_succ_cons, List.take_zero, List.drop_succ_cons, List.drop_zero]
    repeat (go_big_quiet_step ((first | (go_at_call 56; exact quiet_grow rfl (HS.out _ (HB.out.trans ((grow_below W _).mono HB.out.size)))) | (go_at_call 118; exact quiet_grow rfl (HD.out _)))))
    refine wpQuiet_nil ?_
    intro z
    have hbz := grow_below W z
    generalize grow W z = X at *
    replace HB := Lib.hid (up HB.out hbz)
    clear hbz KYl KYc KYf KSl KSc KSf KFl KFc KFf
    go_wp2_with (go_at_call 82; refine (Or_any _ _ _ [E, F] _ (isC X 27 [E, F] (by simp))).mono ?_; rintro e V ⟨rfl, rfl⟩; rw [← HT.out]; replace HB := Lib.hid (up HB.out (up_alloc X (.cells ⟨ints [E, F]⟩ 27))))
    go_ret2
    exact ⟨0, T, rfl, .inl ⟨Hn.out, rfl, rfl⟩, HB.out⟩
  · obtain ⟨h1, h2⟩ := orE2_0 (HT.out.symm.trans h0)
    obtain ⟨hy, h40, hss⟩ := ssE_0 (HE.out.trans h1)
    have Hss := Lib.hid hss
    have HK := Lib.hid (yOk_k hy).2.2
    have HO : Hid (orE [E, F] = 0) := Lib.hid (by rw [h1, h2]; rfl)
    have H0 := Lib.hid h0
    clear h0 h1 h2 hss hy HT HE HF
    go_enter Tryz.func54, Tryz.ntmps54
    go_upto_region 1 with fail
    generalize hW : (World.alloc _ _) = W
    have HB : Hid (Below w.heap.size w W) := Lib.hid (by subst hW; go_grown)
    have KY : Bx W (w.heap.size) 25 [.slice A n c, .slice B m d] := by subst hW; repeat (first | (refine Bx.newAt _ _ _ ?_; first | rfl | (simp only [World.size_alloc]; done) | (simp only [World.size_alloc]; omega)) | refine Bx.old ?_ _)
    have KS : Bx W (w.heap.size + 1) 58 [.slice L r s] := by subst hW; repeat (first | (refine Bx.newAt _ _ _ ?_; first | rfl | (simp only [World.size_alloc]; done) | (simp only [World.size_alloc]; omega)) | refine Bx.old ?_ _)
    have KF : Bx W (w.heap.size + 1 + 1) 3 [.int .i64 f] := by subst hW; repeat (first | (refine Bx.newAt _ _ _ ?_; first | rfl | (simp only [World.size_alloc]; done) | (simp only [World.size_alloc]; omega)) | refine Bx.old ?_ _)
    clear hW
    have KYl := KY.lt; have KYc := KY.get; have KYf := KY.fr; have KSl := KS.lt; have KSc := KS.get; have KSf := KS.fr; have KFl := KF.lt; have KFc := KF.get; have KFf := KF.fr
    refine wp_region_grow_tail 5 (by kernel_rfl) (by kernel_rfl) ?_
    simp only [List.take_succ_cons, List.take_zero, List.drop_succ_cons, List.drop_zero]
    repeat (go_big_quiet_step ((first | (go_at_call 56; exact quiet_grow rfl (HS.out _ (HB.out.trans ((grow_below W _).mono HB.out.size)))) | (go_at_call 118; exact quiet_grow rfl (HD.out _)))))
    refine wpQuiet_nil ?_
    intro z
    have hbz := grow_below W z
    generalize grow W z = X at *
    clear KYl KYc KYf; replace KY := KY.keep hbz; have KYl := KY.lt; have KYc := KY.get; have KYf := KY.fr; clear KSl KSc KSf; replace KS := KS.keep hbz; have KSl := KS.lt; have KSc := KS.get; have KSf := KS.fr; clear KFl KFc KFf; replace KF := KF.keep hbz; have KFl := KF.lt; have KFc := KF.get; have KFf := KF.fr; replace HB := Lib.hid (up HB.out hbz); clear hbz
    go_upto_region 4 with (go_at_call 82; have hba := up_alloc X (.cells ⟨ints [E, F]⟩ 27); refine (Or_any _ _ _ [E, F] _ (isC X 27 [E, F] (by simp))).mono ?_; rintro e V ⟨rfl, rfl⟩; rw [HO.out]; clear KYl KYc KYf; replace KY := KY.keep hba; have KYl := KY.lt; have KYc := KY.get; have KYf := KY.fr; clear KSl KSc KSf; replace KS := KS.keep hba; have KSl := KS.lt; have KSc := KS.get; have KSf := KS.fr; clear KFl KFc KFf; replace KF := KF.keep hba; have KFl := KF.lt; have KFc := KF.get; have KFf := KF.fr; replace HB := Lib.hid (up HB.out hba); clear hba)
    generalize X.alloc (.cells ⟨ints [E, F]⟩ 27) = Y at *
    have HC := Lib.hid (search_any 120 (.pointer (some ⟨w.heap.size, 0, none⟩)) (.pointer (some ⟨w.heap.size + 1, 0, none⟩)) (.pointer (some ⟨w.heap.size + 1 + 1, 0, none⟩)) (fun i => decide (f < eatL K l (i : Int))) 100001 Y (fun args w => by kernel_rfl)
      (fun Z i hZ hi => lasts1_any A n c B m d K L r s l f i _ _ _ Z ((Hg.out.keep HB.out).keep hZ) ((Hl.out.keep HB.out).keep hZ) HK.out Hss.out h40 hi (KY.keep hZ) (KS.keep hZ) (KF.keep hZ)) (by omega)
      (fun a b hab hb h => by
        have := eatL_mono HK.out l (a := (a : Int)) (b := (b : Int)) (by omega)
        simp only [decide_eq_true_eq] at h ⊢; omega))
    clear KYl KYc KYf KSl KSc KSf KFl KFc KFf
    clear KY KS KF
    go_upto_region 5 with (go_at_call 119; refine HC.out.mono ?_; rintro e U ⟨q, rfl, hq, hbu⟩; have HQ := Lib.hid hq; have hq1 := hq.1; have HBU := Lib.hid (up HB.out hbu); clear hbu hq)
    by_cases hq0 : q = 0
    · subst hq0
      have HP : Hid (LasP K l f 0 3) := Lib.hid (.inl ⟨rfl, rfl, by have := HQ.out.2.2 0 (by omega) (by omega); simpa using this⟩)
      go_wp2
      go_ret2
      exact ⟨0, 3, rfl, .inr ⟨H0.out, HP.out⟩, HBU.out⟩
    · have hne : ((q : Int) == 0) = false := by simp; exact hq0
      have HP : Hid (LasP K l f ((q : Int) - 1) 0) := Lib.hid (.inr ⟨rfl, by omega, by
        have := HQ.out.2.1 (q - 1) (by omega)
        simp only [decide_eq_false_iff_not] at this
        rw [show ((q - 1 : Nat) : Int) = (q : Int) - 1 by omega] at this
        omega, fun h => by
        have := HQ.out.2.2 q (by omega) (by omega)
        simp only [decide_eq_true_eq] at this
        rw [show (q : Int) - 1 + 1 = (q : Int) by omega]; exact this⟩)
      have e1 : IntKind.i64.wrap ((q : Int) - 1) = (q : Int) - 1 := by rw [IntWalk.i64_in _ (by omega)]
      go_wp2
      go_ret2
      exact ⟨(q : Int) - 1, 0, rfl, .inr ⟨H0.out, HP.out⟩, HBU.out⟩
end Go.Proofs.YtaieidigpilbfaaGreat

namespace Go.Proofs.YtaieidigpilbfaaGreat
open Go Go.RowKit
set_option maxHeartbeats 2000000
set_option maxRecDepth 100000

theorem thK_idx (l : List St) (d : Int) : ∀ k, k ≤ l.length → ∀ x ∈ thK l d k, 0 ≤ x ∧ x < (k : Int) := by
  intro k
  induction k with
  | zero => intro _ x hx; simp [thK] at hx
  | succ k ih =>
    intro hk x hx
    rw [thK] at hx
    split at hx
    · rcases List.mem_append.1 hx with h | h
      · have := ih (by omega) x h; omega
      · simp at h; subst h; omega
    · have := ih (by omega) x hx; omega
theorem thL_idx (l : List St) (d : Int) : idxOk l.length (thL l d) := thK_idx l d l.length (Nat.le_refl _)
theorem thL_len (l : List St) (d : Int) : (thL l d).length ≤ l.length := thK_len l d l.length
/-- The sorts of those who are there. -/
def sortsOf (l : List St) (t : List Int) : List Int := t.map fun i => (l.getD i.toNat st00).s
def bsD (l : List St) (d : Int) : List Int := sortsOf l (thL l d)
theorem sortsOf_len (l : List St) (t : List Int) : (sortsOf l t).length = t.length := by simp [sortsOf]
theorem bsD_ok {K : List Kd} {l : List St} (h : ssOk K l = true) (d : Int) : lOk K (bsD l d) = true := by
  unfold lOk
  refine List.all_eq_true.2 fun x hx => ?_
  obtain ⟨i, hi, rfl⟩ := List.mem_map.1 hx
  have := thL_idx l d i hi
  have hlt : i.toNat < l.length := by omega
  have h2 := List.all_eq_true.1 h l[i.toNat] (List.getElem_mem hlt)
  unfold stB at h2
  simp only [Bool.and_eq_true] at h2
  rw [show l.getD i.toNat st00 = l[i.toNat] by simp [hlt]]
  exact h2.1.1
def fullB (P : List Int) (K : List Kd) (l : List St) (d : Int) : Bool := decide (8 < (bsD l d).length) || !(PL P K (bsD l d) != [])

theorem isFull_any (A : Option Addr) (n c : Nat) (P : List Int) (B : Option Addr) (m d : Nat) (K : List Kd) (L : Option Addr) (r s : Nat) (l : List St) (dd : Int) (w : World) (hp : Is w A n P) (hg : Ks w B m K) (hl : Ss w L r l) (hy : yOk P K = true) (hs : ssOk K l = true) (h40 : l.length ≤ 40) :
    Calls Tryz.prog 114 #[.agg #[.slice A n c, .slice B m d], .slice L r s, .int .i64 dd] w fun e w' => e = .returned (.bool (fullB P K l dd)) ∧ Below w.heap.size w w' := by
  obtain ⟨h5, hP, hK⟩ := yOk_k hy
  have hap := apL_len K
  have Hr : Hid (r = l.length) := Lib.hid hl.len
  have hrx := hl.small
  have Hp := Lib.hid hp; have Hg := Lib.hid hg; have Hl := Lib.hid hl
  have HPs := Lib.hid hP; have HK := Lib.hid hK
  have Hidx := Lib.hid (thL_idx l dd)
  have hT40 : (thL l dd).length ≤ 40 := by have := thL_len l dd; omega
  have HFB : Hid (fullB P K l dd = (decide (8 < (bsD l dd).length) || !(PL P K (bsD l dd) != []))) := Lib.hid rfl
  have Hgb := Lib.hid (bsL_good hK (bsD_ok hs dd))
  have HbsD : Hid (bsD l dd = sortsOf l (thL l dd)) := Lib.hid rfl
  have hbl := sortsOf_len l (thL l dd)
  clear hp hg hl hP hK hs hy
  go_enter Tryz.func114, Tryz.ntmps114
  go_upto_region 1 with fail
  generalize hW : (World.alloc _ _) = W
  have HB : Hid (Below w.heap.size w W) := Lib.hid (by subst hW; go_grown)
  have KY : Bx W (w.heap.size) 25 [.slice A n c, .slice B m d] := by subst hW; repeat (first | (refine Bx.newAt _ _ _ ?_; first | rfl | (simp only [World.size_alloc]; done) | (simp only [World.size_alloc]; omega)) | refine Bx.old ?_ _)
  clear hW
  have KYl := KY.lt; have KYc := KY.get; have KYf := KY.fr
  go_wp2_with (go_at_call 109; refine (there_any L r s l dd _ (Hl.out.keep HB.out) (by omega)).mono ?_; rintro e V ⟨v, rfl, hO, hbv⟩; obtain ⟨TA, tc, rfl, htc, hT, htf⟩ := hO.is; have HT := Lib.hid hT; have HV0 := Lib.hid (hbv.size); clear KYl KYc KYf; replace KY := KY.keep hbv; have KYl := KY.lt; have KYc := KY.get; have KYf := KY.fr; replace HB := Lib.hid (up HB.out hbv); clear hbv; clear hO hT htf)
  generalize thL l dd = T at *
  have HgV := Lib.hid (Hg.out.keep HB.out); have HlV := Lib.hid (Hl.out.keep HB.out); have HpV := Lib.hid (Hp.out.keep HB.out)
  clear KYl KYc KYf
  clear Hg Hl Hp
  go_loopw [7, 14] (fun v i wr => ∃ (k : Nat), k ≤ T.length ∧ i = .int .i64 k ∧ OI wr V.heap.size v (sortsOf l (T.take k)) ∧ Below V.heap.size V wr) (fun _ i _ => T.length - (intOf i).toNat)
  case atStart => exact ⟨0, by omega, rfl, OI.nil _ _, Below.refl _ _⟩
  case round =>
    obtain ⟨k, hk, rfl, ho, hb⟩ := hrel
    have HBV := Lib.hid hb; have HO := Lib.hid ho
    obtain ⟨A1, c1, rfl⟩ := ho.shape
    have hsw := hb.size
    clear hb ho
    have hok : (sortsOf l (T.take k)).length = k := by rw [sortsOf_len, List.length_take]; omega
    by_cases hlt : k < T.length
    · have Htk : Hid (sortsOf l (T.take (k + 1)) = sortsOf l (T.take k) ++ [(l.getD T[k].toNat st00).s]) := Lib.hid (by unfold sortsOf; rw [List.take_succ_eq_append_getElem hlt, List.map_append, List.map_singleton])
      have hin := Hidx.out T[k] (List.getElem_mem hlt)
      obtain ⟨b, o, rfl, hb, hc⟩ := (HT.out.keep HBV.out).get k hlt
      generalize hy : T[k] = y at *
      clear hy
      obtain ⟨j, rfl⟩ := Int.eq_ofNat_of_zero_le hin.1
      have hjl : j < l.length := by omega
      have hjr : j < r := by rw [Hr.out]; exact hjl
      have Hq : Hid (l.getD (j : Int).toNat st00 = l[j]) := Lib.hid (by simp [hjl])
      rw [Hq.out] at Htk
      obtain ⟨b2, o2, rfl, hb2, hcs⟩ := (HlV.out.keep HBV.out).get j hjl
      obtain ⟨c0, -, -⟩ := hcs
      generalize l[j].s = x at *
      generalize sortsOf l (T.take k) = X at *
      clear hin Hq hbl
      have hbT := up_alloc wr (.cells #[.int .i64 x] 3)
      have HOT := Lib.hid (HO.out.keep hbT)
      have HcT : Hid ((wr.alloc (.cells #[.int .i64 x] 3)).cell? ⟨wr.heap.size, 0, none⟩ = some (.int .i64 x)) := Lib.hid (by rw [cell_of_row _ _ _ _ _ _ (heap_alloc_new _ _)]; rfl)
      have HBT := Lib.hid (up HBV.out hbT)
      have hTs : (wr.alloc (.cells #[.int .i64 x] 3)).heap.size = wr.heap.size + 1 := by simp
      clear hbT
      go_wp2_with (at_builtin; refine wpList_appI HOT.out (.tmp 18) (.tmp 24) rfl rfl rfl rfl HcT.out (by omega) (by omega) ?_; intro A3 c3 U3 hO hB4; have HO4 := Lib.hid hO; have HB4 := Lib.hid (HBT.out.trans hB4); clear hO hB4)
      exact ⟨⟨k + 1, by omega, by go_num, by rw [Htk.out]; have h4 := HO4.out; rw [hok] at h4; exact h4, HB4.out⟩, by simp [intOf]; omega⟩
    · obtain rfl : k = T.length := by omega
      have Hf : Hid (sortsOf l (T.take T.length) = bsD l dd) := Lib.hid (by rw [List.take_length, HbsD.out])
      have hf := Hf.out
      generalize sortsOf l (T.take T.length) = Z at *
      subst hf
      obtain ⟨A2, c2, e2, hc2, his, hfar⟩ := HO.out.is
      cases e2
      have His := Lib.hid his
      have Hok := Lib.hid hok
      clear his hfar hbl hok Hf
      have KYr := KY.keep HBV.out
      have HBr := Lib.hid (up HB.out HBV.out)
      have KYrl := KYr.lt; have KYrc := KYr.get; have KYrf := KYr.fr
      by_cases h8 : 8 < (bsD l dd).length
      · have HFT : Hid (fullB P K l dd = true) := Lib.hid (by rw [HFB.out]; simp [h8])
        go_wp2
        go_ret
        exact ⟨ret_bool HFT.out.symm, HBr.out⟩
      · have HPL : Hid (PL P K (bsD l dd) = plc (apL K) P.length P.length (bsL K (bsD l dd)) (st0 P)) := Lib.hid rfl
        have HFT : Hid (fullB P K l dd = !(PL P K (bsD l dd) != [])) := Lib.hid (by rw [HFB.out]; simp [h8])
        have h18 : (bsL K (bsD l dd)).length ≤ 8 := by rw [bsL_len]; omega
        have h40' : (bsD l dd).length ≤ 1000 := by omega
        clear hT40 HbsD Hidx HT
        go_upto_region 20 with (first
          | (go_at_call 124; refine (newLoad_any A n c B m d K A1 _ c1 (bsD l dd) _ (HgV.out.keep HBV.out) His.out HK.out h40').mono ?_; rintro e U ⟨B', c', rfl, hlc, hks, -, hbu⟩; have Hks := Lib.hid hks; have HpU := Lib.hid ((HpV.out.keep HBV.out).keep hbu); have HBU := Lib.hid (up HBr.out hbu); clear hbu hks)
          | (go_at_call 92; refine (fits_any A n c P B' (bsD l dd).length c' (bsL K (bsD l dd)) (apL K) _ HpU.out Hks.out hap h5 HPs.out Hgb.out h18).mono ?_; rw [← HPL.out]; rintro e V2 ⟨rfl, hbv⟩; generalize (PL P K (bsD l dd) != []) = Q at *; have HBV2 := Lib.hid (up HBU.out hbv); clear hbv))
        go_wp2
        go_ret
        have h8i : decide ((8 : Int) < ((bsD l dd).length : Int)) = false := by simp; omega
        exact ⟨ret_bool (by rw [HFT.out, h8i]; rfl), HBV2.out⟩
end Go.Proofs.YtaieidigpilbfaaGreat

namespace Go.Proofs.YtaieidigpilbfaaGreat
open Go Go.RowKit
set_option maxHeartbeats 2000000
set_option maxRecDepth 100000

theorem posI_cases (f : Int → Bool) (l : List Int) : ∀ k : Nat, (posI f l k = -1 ∧ l.find? f = none) ∨ (∃ j, ∃ h : j < l.length, posI f l k = ((k + j : Nat) : Int) ∧ l.find? f = some l[j]) := by
  induction l with
  | nil => intro k; exact .inl ⟨rfl, rfl⟩
  | cons y r ih =>
    intro k
    cases h : f y
    · rw [posI_no r k h, List.find?_cons, h]
      rcases ih (k + 1) with h1 | ⟨j, hj, h1, h2⟩
      · exact .inl h1
      · exact .inr ⟨j + 1, by simpa using hj, by rw [h1]; omega, by simpa using h2⟩
    · exact .inr ⟨0, by simp, by rw [posI_yes r k h]; simp, by rw [List.find?_cons, h]; rfl⟩
def inL (l : List St) : List Int := l.map (·.i)
theorem inL_len (l : List St) : (inL l).length = l.length := by simp [inL]
def fulP (P : List Int) (K : List Kd) (l : List St) : Option Int := (srt (inL l)).find? (fullB P K l)
def fulD (P : List Int) (K : List Kd) (l : List St) : Int := if ssE P K l = 0 then (fulP P K l).getD 0 else 0
def fulE (P : List Int) (K : List Kd) (l : List St) : Int := if ssE P K l = 0 then (if (fulP P K l).isSome = true then 0 else 3) else ssE P K l

theorem full1_any (A : Option Addr) (n c : Nat) (P : List Int) (B : Option Addr) (m d : Nat) (K : List Kd) (L : Option Addr) (r s : Nat) (l : List St) (dd : Int) (q1 q2 : Nat) (w : World) (hp : Is w A n P) (hg : Ks w B m K) (hl : Ss w L r l) (hy : yOk P K = true) (hs : ssOk K l = true) (h40 : l.length ≤ 40)
    (k1 : Bx w q1 25 [.slice A n c, .slice B m d]) (k2 : Bx w q2 58 [.slice L r s]) :
    Calls Tryz.prog 113 #[.int .i64 dd, .pointer (some ⟨q1, 0, none⟩), .pointer (some ⟨q2, 0, none⟩)] w fun e w' => e = .returned (.bool (fullB P K l dd)) ∧ Below w.heap.size w w' := by
  have HF := Lib.hid (isFull_any A n c P B m d K L r s l dd w hp hg hl hy hs h40)
  generalize fullB P K l dd = Q at *
  clear hp hg hl hy hs
  have k1l := k1.lt; have k1c := k1.get; have k1f := k1.fr; have k2l := k2.lt; have k2c := k2.get; have k2f := k2.fr
  go_enter Tryz.func113, Tryz.ntmps113
  go_wp2_with (go_at_call 114; refine HF.out.mono ?_; rintro e U ⟨rfl, hbu⟩; have HBU := Lib.hid hbu; clear hbu)
  go_ret
  exact ⟨rfl, HBU.out⟩

theorem Full_any (A : Option Addr) (n c : Nat) (P : List Int) (B : Option Addr) (m d : Nat) (K : List Kd) (L : Option Addr) (r s : Nat) (l : List St) (w : World) (hp : Is w A n P) (hg : Ks w B m K) (hl : Ss w L r l) :
    Calls Tryz.prog 50 #[.agg #[.slice A n c, .slice B m d], .slice L r s] w fun e w' => e = .returned (.tuple #[.int .i64 (fulD P K l), .int .i64 (fulE P K l)]) ∧ Below w.heap.size w w' := by
  have Hr : Hid (r = l.length) := Lib.hid hl.len
  have hrx := hl.small
  have Hp := Lib.hid hp; have Hg := Lib.hid hg; have Hl := Lib.hid hl
  clear hp hg hl
  by_cases h0 : ssE P K l = 0
  rotate_left
  · have hne : (ssE P K l != 0) = true := by simpa using h0
    have HE : Hid (fulE P K l = ssE P K l) := Lib.hid (by unfold fulE; rw [if_neg h0])
    have HD : Hid (fulD P K l = 0) := Lib.hid (by unfold fulD; rw [if_neg h0])
    rw [HE.out, HD.out]
    have HS : Hid (∀ W, Below w.heap.size w W → Calls Tryz.prog 56 #[.agg #[.slice A n c, .slice B m d], .slice L r s] W fun e w' => e = .returned (.int .i64 (ssE P K l)) ∧ Below W.heap.size W w') := Lib.hid (fun W hW => checkStays_any A n c P B m d K L r s l W (Hp.out.keep hW) (Hg.out.keep hW) (Hl.out.keep hW))
    generalize ssE P K l = E at *
    clear h0
    go_enter Tryz.func50, Tryz.ntmps50
    go_upto_region 1 with fail
    generalize hW : (World.alloc _ _) = W
    have HB : Hid (Below w.heap.size w W) := Lib.hid (by subst hW; go_grown)
    have KY : Bx W (w.heap.size) 25 [.slice A n c, .slice B m d] := by subst hW; repeat (first | (refine Bx.newAt _ _ _ ?_; first | rfl | (simp only [World.size_alloc]; done) | (simp only [World.size_alloc]; omega)) | refine Bx.old ?_ _)
    have KS : Bx W (w.heap.size + 1) 58 [.slice L r s] := by subst hW; repeat (first | (refine Bx.newAt _ _ _ ?_; first | rfl | (simp only [World.size_alloc]; done) | (simp only [World.size_alloc]; omega)) | refine Bx.old ?_ _)
    clear hW
    have KYl := KY.lt; have KYc := KY.get; have KYf := KY.fr; have KSl := KS.lt; have KSc := KS.get; have KSf := KS.fr
    go_wp2_with (go_at_call 56; refine (HS.out _ HB.out).mono ?_; rintro e X ⟨rfl, hbx⟩; have HBX := Lib.hid (up HB.out hbx); clear hbx)
    go_ret2
    exact ⟨rfl, HBX.out⟩
  · obtain ⟨hy, h40, hss⟩ := ssE_0 h0
    have Hy := Lib.hid hy; have Hss := Lib.hid hss
    have HE : Hid (fulE P K l = if (fulP P K l).isSome = true then 0 else 3) := Lib.hid (by unfold fulE; rw [if_pos h0])
    have HD : Hid (fulD P K l = (fulP P K l).getD 0) := Lib.hid (by unfold fulD; rw [if_pos h0])
    have H0 := Lib.hid h0
    have hil := inL_len l
    clear h0 hy hss
    go_enter Tryz.func50, Tryz.ntmps50
    go_upto_region 1 with fail
    generalize hW : (World.alloc _ _) = W
    have HB : Hid (Below w.heap.size w W) := Lib.hid (by subst hW; go_grown)
    have KY : Bx W (w.heap.size) 25 [.slice A n c, .slice B m d] := by subst hW; repeat (first | (refine Bx.newAt _ _ _ ?_; first | rfl | (simp only [World.size_alloc]; done) | (simp only [World.size_alloc]; omega)) | refine Bx.old ?_ _)
    have KS : Bx W (w.heap.size + 1) 58 [.slice L r s] := by subst hW; repeat (first | (refine Bx.newAt _ _ _ ?_; first | rfl | (simp only [World.size_alloc]; done) | (simp only [World.size_alloc]; omega)) | refine Bx.old ?_ _)
    clear hW
    have KYl := KY.lt; have KYc := KY.get; have KYf := KY.fr; have KSl := KS.lt; have KSc := KS.get; have KSf := KS.fr
    go_upto_region 6 with (go_at_call 56; refine (checkStays_any A n c P B m d K L r s l _ (Hp.out.keep HB.out) (Hg.out.keep HB.out) (Hl.out.keep HB.out)).mono ?_; rintro e X ⟨rfl, hbx⟩; rw [H0.out]; have hs1 := KS.lt; have hs2 := hbx.size; clear KYl KYc KYf; replace KY := KY.keep hbx; have KYl := KY.lt; have KYc := KY.get; have KYf := KY.fr; clear KSl KSc KSf; replace KS := KS.keep hbx; have KSl := KS.lt; have KSc := KS.get; have KSf := KS.fr; replace HB := Lib.hid (up HB.out hbx); clear hbx)
    have hX2 : w.heap.size + 2 ≤ X.heap.size := by omega
    clear KYl KYc KYf KSl KSc KSf
    clear hs1 hs2
    go_loopw [7, 19] (fun v i wr => ∃ (k : Nat), k ≤ r ∧ i = .int .i64 k ∧ OI wr (w.heap.size + 2) v (inL (l.take k)) ∧ Below w.heap.size w wr ∧ w.heap.size + 2 ≤ wr.heap.size ∧ Bx wr w.heap.size 25 [.slice A n c, .slice B m d] ∧ Bx wr (w.heap.size + 1) 58 [.slice L r s]) (fun _ i _ => r - (intOf i).toNat)
    case atStart => exact ⟨0, by omega, rfl, OI.nil _ _, HB.out, hX2, KY, KS⟩
    case round =>
      clear KY KS HB hX2
      obtain ⟨k, hk, rfl, ho, hb, hws, KY, KS⟩ := hrel
      have HB := Lib.hid hb; have HO := Lib.hid ho
      obtain ⟨A1, c1, rfl⟩ := ho.shape
      have hok : (inL (l.take k)).length = k := by rw [inL_len, List.length_take, ← Hr.out]; omega
      clear hb ho
      by_cases hlt : k < r
      · have hkl : k < l.length := by rw [← Hr.out]; exact hlt
        have Htk : Hid (inL (l.take (k + 1)) = inL (l.take k) ++ [l[k].i]) := Lib.hid (by unfold inL; rw [List.take_succ_eq_append_getElem hkl, List.map_append, List.map_singleton])
        obtain ⟨b, o, rfl, hb, hcs⟩ := (Hl.out.keep HB.out).get k hkl
        obtain ⟨c0, e1, e2⟩ := hcs
        generalize l[k] = x at *
        generalize inL (l.take k) = Z at *
        clear hil
        go_upto_region 8 with (refine wpList_putNew 76 9 22 rfl rfl rfl rfl (by kernel_rfl) rfl (by simp [Value.oneCell']) ?_; intro U KX hbu hsu)
        have HOU := Lib.hid (HO.out.keep hbu)
        replace KY := KY.keep hbu; replace KS := KS.keep hbu
        replace HB := Lib.hid (up HB.out hbu)
        have hUs : w.heap.size + 2 ≤ U.heap.size := by omega
        have hZ40 : Z.length ≤ 1000 := by omega
        clear c0 e1 e2 hb hbu hsu hok
        have KXl := KX.lt; have KXc := KX.get; have KXf := KX.fr
        have hbT := up_alloc U (.cells #[.int .i64 x.i] 3)
        have HOT := Lib.hid (HOU.out.keep hbT)
        have HcT : Hid ((U.alloc (.cells #[.int .i64 x.i] 3)).cell? ⟨U.heap.size, 0, none⟩ = some (.int .i64 x.i)) := Lib.hid (by rw [cell_of_row _ _ _ _ _ _ (heap_alloc_new _ _)]; rfl)
        have HBT := Lib.hid (up HB.out hbT)
        have KYT := KY.keep hbT; have KST := KS.keep hbT
        have hTs : (U.alloc (.cells #[.int .i64 x.i] 3)).heap.size = U.heap.size + 1 := by simp
        clear hbT HOU HO
        go_wp2_with (at_builtin; refine wpList_appI HOT.out (.tmp 23) (.tmp 26) rfl rfl rfl rfl HcT.out (by omega) (by omega) ?_; intro A3 c3 U3 hO hB4; have HO4 := Lib.hid hO; have hs4 := hB4.size; have HB4 := Lib.hid (HBT.out.trans (hB4.mono (by omega))); have KY4 := KYT.keepB hB4 (by omega); have KS4 := KST.keepB hB4 (by omega); clear hO hB4)
        exact ⟨⟨k + 1, by omega, by go_num, by rw [Htk.out]; exact HO4.out, HB4.out, by omega, KY4, KS4⟩, by simp [intOf]; omega⟩
      · obtain rfl : k = r := by omega
        have hf : inL (l.take k) = inL l := by rw [Hr.out, List.take_length]
        generalize inL (l.take k) = Z at *
        subst hf
        have h40' : (inL l).length ≤ 1000 := by omega
        have Hok := Lib.hid hok
        have HS := Lib.hid (sort_any wr (w.heap.size + 2) (inL l).length c1 A1 (inL l) HO.out rfl h40' hws)
        clear HO hok hil
        go_upto_region 11 with (go_at_call 111; refine HS.out.mono ?_; rintro e V ⟨rfl, his, hbv⟩; have His := Lib.hid his; have hsv := hbv.size; replace KY := KY.keepB hbv (by omega); replace KS := KS.keepB hbv (by omega); replace HB := Lib.hid (HB.out.trans (hbv.mono (by omega))); clear his hbv)
        have HC := Lib.hid (indexI_any 113 (.pointer (some ⟨w.heap.size, 0, none⟩)) (.pointer (some ⟨w.heap.size + 1, 0, none⟩)) (fullB P K l) (fun _ => True) V (fun args w => by kernel_rfl)
          (fun Z x hZ _ => full1_any A n c P B m d K L k s l x _ _ Z ((Hp.out.keep HB.out).keep hZ) ((Hg.out.keep HB.out).keep hZ) ((Hl.out.keep HB.out).keep hZ) Hy.out Hss.out h40 (KY.keep hZ) (KS.keep hZ)) A1 (inL l).length c1 (srt (inL l)) His.out (fun _ _ => trivial))
        have hsl := srt_len (inL l)
        have HP : Hid (fulP P K l = (srt (inL l)).find? (fullB P K l)) := Lib.hid rfl
        rcases posI_cases (fullB P K l) (srt (inL l)) 0 with ⟨h1, h2⟩ | ⟨j, hj, h1, h2⟩
        · rw [h1] at HC
          have HD2 : Hid (fulD P K l = 0) := Lib.hid (by rw [HD.out, HP.out, h2]; rfl)
          have HE2 : Hid (fulE P K l = 3) := Lib.hid (by rw [HE.out, HP.out, h2]; rfl)
          clear h1 h2
          go_wp2_with (go_at_call 112; refine HC.out.mono ?_; rintro e U ⟨rfl, hbu⟩; have HBU := Lib.hid (up HB.out hbu); clear hbu)
          go_ret2
          exact ⟨by rw [HD2.out, HE2.out]; rfl, HBU.out⟩
        · rw [h1] at HC
          have HD2 : Hid (fulD P K l = (srt (inL l))[j]) := Lib.hid (by rw [HD.out, HP.out, h2]; rfl)
          have HE2 : Hid (fulE P K l = 0) := Lib.hid (by rw [HE.out, HP.out, h2]; rfl)
          have hjl : j < (inL l).length := by omega
          have HCj := HC.out
          rw [show ((0 + j : Nat) : Int) = (j : Int) by omega] at HCj
          have HC2 := Lib.hid HCj
          clear h1 h2 HCj HC
          go_upto_region 14 with (go_at_call 112; refine HC2.out.mono ?_; rintro e U ⟨rfl, hbu⟩; have HBU := Lib.hid (up HB.out hbu); have HisU := Lib.hid (His.out.keep hbu); clear hbu)
          obtain ⟨b, o, rfl, hb, hc⟩ := HisU.out.get j hj
          generalize (srt (inL l))[j] = x at *
          go_wp2
          go_ret2
          exact ⟨by rw [HD2.out, HE2.out]; rfl, HBU.out⟩
end Go.Proofs.YtaieidigpilbfaaGreat

