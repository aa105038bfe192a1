/- Plain laws of paths: names parted at a slash, what may be a path, what it is in, its last name. Of no program. No condition. -/
import Derived.Lib.Bytealg
import Derived.Lib.LastIndexByte
import Derived.Lib.Small
import Derived.WalkKit
import Derived.Deep.Draws
import Derived.Deep.MidRow
import Derived.Laws.CopyOwn
import Derived.Lib.Hide
import Derived.IntWalk
import Derived.OwnWalk
import Derived.Laws.AppendOwn
import Derived.Sort.OwnSorted
import Derived.Lib.OwnBridge
import Derived.Test.YtefamkckoikeoaaDoorProg
import Derived.KernelRfl
import Derived.Deep.RegionHeld3
import Derived.Below
import Derived.Laws.Rows
import Derived.Laws.AppendOwnNone
import Derived.Laws.MakeOwn
import Derived.Lib.LazyBuf
import Derived.Laws.BytesString
import Derived.Tactics
namespace Go.Proofs.YtefamkckoikeoaaDoor
abbrev Tx := List UInt8
/-- A path's names: what stands between the slashes. -/
def nms : Tx → List Tx
  | [] => [[]]
  | c :: r => if c = 47 then [] :: nms r else match nms r with
    | [] => [[c]]
    | n :: ns => (c :: n) :: ns
/-- Names, put together again. -/
def jn : List Tx → Tx
  | [] => []
  | [n] => n
  | n :: m :: r => n ++ 47 :: jn (m :: r)
def okByte (c : UInt8) : Bool := (decide (97 ≤ c.toNat) && decide (c.toNat ≤ 122)) || (decide (48 ≤ c.toNat) && decide (c.toNat ≤ 57)) || c == 46 || c == 45 || c == 95
def okName (n : Tx) : Bool := !(n == [] || decide (16 < n.length) || n == [46] || n == [46, 46]) && n.all okByte
def okPath (p : Tx) : Bool := decide ((nms p).length ≤ 4) && (nms p).all okName
theorem nms_ne (p : Tx) : nms p ≠ [] := by
  cases p with
  | nil => simp [nms]
  | cons c r =>
    unfold nms
    split
    · simp
    · split <;> simp
theorem nms_pos (p : Tx) : 0 < (nms p).length := List.length_pos_iff.2 (nms_ne p)
theorem nms_sep (p q : Tx) : nms (p ++ 47 :: q) = nms p ++ nms q := by
  induction p with
  | nil => simp [nms]
  | cons c r ih =>
    rw [List.cons_append]
    by_cases h : c = 47
    · simp [nms, h, ih]
    · rw [nms, if_neg h, nms, if_neg h, ih]
      cases hr : nms r with
      | nil => exact absurd hr (nms_ne r)
      | cons n ns => rfl
theorem nms_plain {p : Tx} (h : 47 ∉ p) : nms p = [p] := by
  induction p with
  | nil => rfl
  | cons c r ih =>
    have h1 : c ≠ 47 := fun e => h (by simp [e])
    have h2 : 47 ∉ r := fun e => h (List.mem_cons_of_mem _ e)
    rw [nms, if_neg h1, ih h2]
theorem nms_no (p : Tx) : ∀ n ∈ nms p, 47 ∉ n := by
  induction p with
  | nil => simp [nms]
  | cons c r ih =>
    rw [nms]
    by_cases h : c = 47
    · rw [if_pos h]
      intro n hn
      rcases List.mem_cons.1 hn with rfl | hn
      · simp
      · exact ih n hn
    · rw [if_neg h]
      cases hr : nms r with
      | nil => exact absurd hr (nms_ne r)
      | cons m ms =>
        rw [hr] at ih
        intro n hn
        rcases List.mem_cons.1 hn with rfl | hn
        · intro e
          rcases List.mem_cons.1 e with e | e
          · exact h e.symm
          · exact ih m (List.mem_cons_self ..) e
        · exact ih n (List.mem_cons_of_mem _ hn)
theorem jn_cons (n : Tx) {l : List Tx} (h : l ≠ []) : jn (n :: l) = n ++ 47 :: jn l := by
  cases l with
  | nil => exact absurd rfl h
  | cons m r => rfl
theorem jn_nms (p : Tx) : jn (nms p) = p := by
  induction p with
  | nil => rfl
  | cons c r ih =>
    rw [nms]
    by_cases h : c = 47
    · rw [if_pos h, jn_cons _ (nms_ne r), ih, h]; rfl
    · rw [if_neg h]
      cases hr : nms r with
      | nil => exact absurd hr (nms_ne r)
      | cons m ms =>
        rw [hr] at ih
        rw [← ih]
        cases ms with
        | nil => rfl
        | cons k ks => rfl
theorem jn_snoc {l : List Tx} (h : l ≠ []) (b : Tx) : jn (l ++ [b]) = jn l ++ 47 :: b := by
  induction l with
  | nil => exact absurd rfl h
  | cons n r ih =>
    cases r with
    | nil => rfl
    | cons m s =>
      have e : n :: m :: s ++ [b] = n :: (m :: s ++ [b]) := rfl
      rw [e, jn_cons n (l := m :: s ++ [b]) (by simp), ih (by simp), jn_cons n (l := m :: s) (by simp), List.append_assoc, List.cons_append]
theorem nms_jn {l : List Tx} (h : l ≠ []) (hn : ∀ n ∈ l, 47 ∉ n) : nms (jn l) = l := by
  induction l with
  | nil => exact absurd rfl h
  | cons n r ih =>
    cases r with
    | nil => exact nms_plain (hn n (by simp))
    | cons m s =>
      rw [jn_cons _ (by simp), nms_sep, nms_plain (hn n (by simp)), ih (by simp) (fun k hk => hn k (List.mem_cons_of_mem _ hk))]
      rfl
theorem nms_count (p : Tx) : (nms p).length = p.count 47 + 1 := by
  induction p with
  | nil => rfl
  | cons c r ih =>
    rw [nms]
    by_cases h : c = 47
    · rw [if_pos h, h]; simp [ih]
    · rw [if_neg h, List.count_cons_of_ne (by simpa using h)]
      cases hr : nms r with
      | nil => exact absurd hr (nms_ne r)
      | cons m ms => rw [hr] at ih; simpa using ih
/-! ### the first slash, the last slash -/
theorem idx_cases (s : Tx) : (Lib.indexByte s 47 = -1 ∧ 47 ∉ s) ∨ ∃ i : Nat, i < s.length ∧ Lib.indexByte s 47 = i ∧ s = s.take i ++ 47 :: s.drop (i + 1) ∧ 47 ∉ s.take i := by
  induction s with
  | nil => exact .inl ⟨rfl, by simp⟩
  | cons b l ih =>
    unfold Lib.indexByte
    by_cases hb : b = 47
    · exact .inr ⟨0, by simp, by simp [hb], by simp [hb], by simp⟩
    · have hb' : (b == 47) = false := by simpa using hb
      rcases ih with ⟨h1, h2⟩ | ⟨i, h0, h1, h2, h3⟩
      · exact .inl ⟨by simp [hb', h1], by simp [h2, Ne.symm hb]⟩
      · refine .inr ⟨i + 1, by simpa using h0, ?_, ?_, ?_⟩
        · rw [hb', h1]
          have : ((i : Int) == -1) = false := by rw [beq_eq_false_iff_ne]; omega
          simp [this]
        · simpa using h2
        · simp [h3, Ne.symm hb]
theorem nms_hit {s : Tx} {i : Nat} (h2 : s = s.take i ++ 47 :: s.drop (i + 1)) (h3 : 47 ∉ s.take i) : nms s = s.take i :: nms (s.drop (i + 1)) := by
  conv => lhs; rw [h2]
  rw [nms_sep, nms_plain h3]; rfl
theorem last_cases (s : ByteArray) : (Lib.lastIndexByte s 47 = -1 ∧ 47 ∉ s.data.toList) ∨
    ∃ i : Nat, i < s.data.toList.length ∧ Lib.lastIndexByte s 47 = i ∧ s.data.toList = s.data.toList.take i ++ 47 :: s.data.toList.drop (i + 1) ∧ 47 ∉ s.data.toList.drop (i + 1) := by
  obtain ⟨⟨l⟩⟩ := s
  have hz : (ByteArray.mk { toList := l }).size = l.length := rfl
  have ce : ∀ j : Nat, j < l.length → (((ByteArray.mk { toList := l }).data[j]!).toNat : Int) = (47 : Int) → l[j]? = some 47 := fun j hj h => by
    have e : (ByteArray.mk { toList := l }).data[j]! = l[j] := by
      exact getElem!_pos (⟨l⟩ : Array UInt8) j (by simpa using hj)
    rw [e] at h
    rw [List.getElem?_eq_getElem hj]
    congr 1
    exact UInt8.toNat_inj.1 (by exact_mod_cast h)
  have cn : ∀ j : Nat, j < l.length → (((ByteArray.mk { toList := l }).data[j]!).toNat : Int) ≠ (47 : Int) → l[j]? ≠ some 47 := fun j hj h h' => by
    have e : (ByteArray.mk { toList := l }).data[j]! = l[j] := by
      exact getElem!_pos (⟨l⟩ : Array UInt8) j (by simpa using hj)
    rw [List.getElem?_eq_getElem hj] at h'
    rw [e, Option.some.inj h'] at h
    exact h (by decide)
  rcases Lib.lastIndexByte_spec ⟨⟨l⟩⟩ 47 with ⟨h1, h2⟩ | ⟨i, hi, h1, h2, h3⟩
  · refine .inl ⟨h1, fun hm => ?_⟩
    obtain ⟨j, hj⟩ := List.mem_iff_getElem?.1 hm
    have hj' : j < l.length := (List.getElem?_eq_some_iff.1 hj).1
    exact cn j hj' (h2 j (by rw [hz]; exact hj')) hj
  · rw [hz] at hi
    refine .inr ⟨i, hi, h1, ?_, fun hm => ?_⟩
    · have e := ce i hi h2
      have e2 : l[i] = 47 := by rw [List.getElem?_eq_getElem hi] at e; exact Option.some.inj e
      show l = l.take i ++ 47 :: l.drop (i + 1)
      rw [← e2, ← List.drop_eq_getElem_cons hi, List.take_append_drop]
    · obtain ⟨j, hj⟩ := List.mem_iff_getElem?.1 hm
      rw [List.getElem?_drop] at hj
      have hj' : i + 1 + j < l.length := (List.getElem?_eq_some_iff.1 hj).1
      exact cn _ hj' (h3 _ (by omega) (by rw [hz]; exact hj')) hj
/-! ### what a path is in; its last name -/
def upL (p : Tx) : Tx := jn (nms p).dropLast
def baseL (p : Tx) : Tx := (nms p).getLastD []
theorem up_plain {p : Tx} (h : 47 ∉ p) : upL p = [] ∧ baseL p = p := by
  unfold upL baseL; rw [nms_plain h]; exact ⟨rfl, rfl⟩
theorem up_sep (u b : Tx) (h : 47 ∉ b) : upL (u ++ 47 :: b) = u ∧ baseL (u ++ 47 :: b) = b := by
  unfold upL baseL
  rw [nms_sep, nms_plain h, List.dropLast_concat, jn_nms]
  exact ⟨rfl, by simp [List.getLastD_eq_getLast?]⟩
theorem ok_sep (u b : Tx) : okPath (u ++ 47 :: b) = true → okPath u = true := by
  unfold okPath
  rw [nms_sep]
  simp only [Bool.and_eq_true, decide_eq_true_eq, List.length_append, List.all_append]
  have := nms_pos b
  rintro ⟨h1, h2, _⟩
  exact ⟨by omega, h2⟩
theorem okName_nil : okName [] = false := rfl
theorem ok_nil : okPath [] = false := rfl
def joinL (p n : Tx) : Tx := if p = [] then n else p ++ 47 :: n
def joinOk (p n : Tx) : Bool := !n.contains 47 && okPath (joinL p n)
def underL (p d : Tx) : Bool := (d ++ [47]).isPrefixOf p && okPath p
def insideL (p : Tx) : Bool := p == [46, 119, 111, 114, 107] || underL p [46, 119, 111, 114, 107]
theorem under_iff (p d : Tx) : underL p d = true ↔ okPath p = true ∧ ∃ r, p = d ++ 47 :: r := by
  unfold underL
  rw [Bool.and_eq_true, List.isPrefixOf_iff_prefix]
  constructor
  · rintro ⟨⟨r, rfl⟩, h2⟩; exact ⟨h2, r, by simp⟩
  · rintro ⟨h2, r, rfl⟩; exact ⟨⟨r, by simp⟩, h2⟩
/-! ### the order -/
def rankB (c : UInt8) : Int := if c = 47 then -1 else (c.toNat : Int)
theorem rank_inj {a b : UInt8} (h : rankB a = rankB b) : a = b := by
  unfold rankB at h
  split at h
  · split at h
    · rename_i h1 h2; rw [h1, h2]
    · omega
  · split at h
    · omega
    · exact UInt8.toNat_inj.1 (by omega)
def cmpL : Tx → Tx → Int
  | [], [] => 0
  | [], _ :: _ => -1
  | _ :: _, [] => 1
  | a :: x, b :: y => if a = b then cmpL x y else Lib.compareInt (rankB a) (rankB b)
theorem cmpI_neg (x y : Int) : Lib.compareInt y x = -Lib.compareInt x y := by
  unfold Lib.compareInt; split <;> split <;> (try split) <;> omega
theorem cmpI_lt {x y : Int} (h : x < y) : Lib.compareInt x y = -1 := if_pos h
theorem cmpI_gt {x y : Int} (h : y < x) : Lib.compareInt x y = 1 := by unfold Lib.compareInt; rw [if_neg (by omega), if_pos h]
theorem cmpI_eq (x : Int) : Lib.compareInt x x = 0 := by unfold Lib.compareInt; simp
theorem cmpL_self (p : Tx) : cmpL p p = 0 := by
  induction p with
  | nil => rfl
  | cons a x ih => rw [cmpL, if_pos rfl, ih]
theorem cmpL_zero {p q : Tx} : cmpL p q = 0 ↔ p = q := by
  constructor
  · induction p generalizing q with
    | nil => cases q with
      | nil => intro _; rfl
      | cons b y => intro h; simp [cmpL] at h
    | cons a x ih => cases q with
      | nil => intro h; simp [cmpL] at h
      | cons b y =>
        intro h
        rw [cmpL] at h
        split at h
        · rename_i e; rw [e, ih h]
        · rename_i e
          have hr : rankB a ≠ rankB b := fun k => e (rank_inj k)
          unfold Lib.compareInt at h
          split at h
          · omega
          · split at h <;> omega
  · rintro rfl; exact cmpL_self p
theorem cmpL_neg (p q : Tx) : cmpL q p = -cmpL p q := by
  induction p generalizing q with
  | nil => cases q <;> rfl
  | cons a x ih => cases q with
    | nil => rfl
    | cons b y =>
      rw [cmpL, cmpL]
      by_cases h : a = b
      · rw [if_pos h, if_pos h.symm, ih]
      · rw [if_neg h, if_neg (Ne.symm h), cmpI_neg]
theorem cmpL_trans {p q r : Tx} (h1 : cmpL p q ≤ 0) (h2 : cmpL q r ≤ 0) : cmpL p r ≤ 0 := by
  induction p generalizing q r with
  | nil => cases r <;> simp [cmpL]
  | cons a x ih => cases q with
    | nil => simp [cmpL] at h1
    | cons b y => cases r with
      | nil => simp [cmpL] at h2
      | cons c z =>
        rw [cmpL] at h1 h2 ⊢
        have lt : ∀ {x y : UInt8}, x ≠ y → Lib.compareInt (rankB x) (rankB y) ≤ 0 → rankB x < rankB y := fun {x y} hn h => by
          have hr : rankB x ≠ rankB y := fun k => hn (rank_inj k)
          unfold Lib.compareInt at h
          split at h
          · assumption
          · split at h <;> omega
        by_cases hab : a = b
        · rw [if_pos hab] at h1
          by_cases hbc : b = c
          · rw [if_pos hbc] at h2; rw [if_pos (hab.trans hbc)]; exact ih h1 h2
          · rw [if_neg hbc] at h2; rw [if_neg (by rw [hab]; exact hbc), hab]; exact h2
        · rw [if_neg hab] at h1
          have l1 := lt hab h1
          by_cases hbc : b = c
          · rw [if_neg (by rw [← hbc]; exact hab), ← hbc]; exact h1
          · rw [if_neg hbc] at h2
            have l2 := lt hbc h2
            rw [if_neg (fun e => by rw [e] at l1; omega), cmpI_lt (by omega)]; decide
theorem cmpL_up (u b : Tx) : cmpL u (u ++ 47 :: b) = -1 := by
  induction u with
  | nil => rfl
  | cons a x ih => rw [List.cons_append, cmpL, if_pos rfl, ih]
theorem cmpL_vals (p q : Tx) : cmpL p q = -1 ∨ cmpL p q = 0 ∨ cmpL p q = 1 := by
  induction p generalizing q with
  | nil => cases q <;> simp [cmpL]
  | cons a x ih => cases q with
    | nil => simp [cmpL]
    | cons b y =>
      rw [cmpL]
      split
      · exact ih y
      · unfold Lib.compareInt; split
        · exact .inl rfl
        · split
          · exact .inr (.inr rfl)
          · exact .inr (.inl rfl)
end Go.Proofs.YtefamkckoikeoaaDoor
/- A block of memory that is known whole, and what keeps it. No condition. -/
namespace Go.Proofs.YtefamkckoikeoaaDoor
open Go.RowKit

theorem one32 (l : List Value) (h : ∀ v ∈ l, v.oneCell' = true) : l.toArray.all (·.oneCell') = true :=
  Array.all_eq_true_iff_forall_mem.2 (fun v hv => h v (by simpa using hv))

/-- Block g holds just these cells, all of them to be written. -/
def Has (w : World) (g : Nat) (t : TypeId) (l : List Value) : Prop := w.heap[g]? = some (.cells l.toArray t (0, 0))

namespace Has
variable {w w' : World} {g : Nat} {t : TypeId} {l : List Value}
theorem lt (h : Has w g t l) : g < w.heap.size := by
  unfold Has at h
  exact (Array.getElem?_eq_some_iff.1 h).1
theorem cell (h : Has w g t l) (i : Nat) : w.cell? ⟨g, i, none⟩ = l[i]? := by
  rw [cell_of_row w g i l.toArray t (0, 0) h]; simp
theorem cellv (h : Has w g t l) {i : Nat} {v : Value} (e : l[i]? = some v) : w.cell? ⟨g, i, none⟩ = some v := (h.cell i).trans e
theorem free (h : Has w g t l) (i : Nat) : w.frozen? ⟨g, i, none⟩ = false := by
  unfold Has at h; simp [World.frozen?, h]
theorem made (w : World) (t : TypeId) (cs : Array Value) : Has (w.alloc (.cells cs t)) w.heap.size t cs.toList := by
  have := heap_alloc_new w (.cells cs t); unfold Has; simpa using this
theorem made' (w : World) (t : TypeId) (cs : Array Value) (l : List Value) (e : cs = l.toArray) : Has (w.alloc (.cells cs t)) w.heap.size t l := by
  subst e; exact heap_alloc_new w _
theorem made1 (w : World) (o : Obj) (t : TypeId) (cs : Array Value) (l : List Value) (e : cs = l.toArray) : Has ((w.alloc o).alloc (.cells cs t)) (w.heap.size + 1) t l := by
  have := made' (w.alloc o) t cs l e
  simpa using this
theorem drew (h : Has w g t l) : Has w.drew g t l := h
theorem drewN (h : Has w g t l) (n : Nat) : Has (w.drewN n) g t l := h
theorem alloc (h : Has w g t l) (o : Obj) : Has (w.alloc o) g t l := (Below.heap_alloc w o g h.lt).trans h
theorem put (h : Has w g t l) (i : Nat) (u : Value) : Has (w.setCell ⟨g, i, none⟩ u) g t (l.set i u) := by
  unfold Has at h ⊢; simp [World.setCell, Array.getElem?_modify, h]
theorem off (h : Has w g t l) {p : Addr} (hp : g ≠ p.block) (u : Value) : Has (w.setCell p u) g t l := (Below.heap_setCell w p u g hp).trans h
theorem row (h : Has w g t l) (cs : Array Value) : Has (w.setRow g cs) g t cs.toList := by
  have := setRow_heap w g l.toArray cs t (0, 0) h
  unfold Has; simpa using this
theorem rowl (h : Has w g t l) (l' : List Value) : Has (w.setRow g l'.toArray) g t l' := setRow_heap w g l.toArray l'.toArray t (0, 0) h
theorem offRow (h : Has w g t l) {g' : Nat} (hg : g ≠ g') (cs : Array Value) : Has (w.setRow g' cs) g t l := (setRow_other w g' g cs hg).trans h
theorem keep {b : Nat} (h : Has w g t l) (hb : Below b w w') (hg : g < b) : Has w' g t l := (hb.block g hg).trans h
theorem apart {g' : Nat} {t' : TypeId} {l' : List Value} (h : Has w g t l) (h' : Has w g' t' l') (hne : t ≠ t') : g ≠ g' := by
  rintro rfl
  unfold Has at h h'; rw [h] at h'; injection h' with h'; injection h' with _ ht; exact hne ht
theorem apartl {g' : Nat} {t' : TypeId} {l' : List Value} (h : Has w g t l) (h' : Has w g' t' l') (hne : l.length ≠ l'.length) : g ≠ g' := by
  rintro rfl
  unfold Has at h h'; rw [h] at h'; injection h' with h'; injection h' with hl _
  exact hne (by have := congrArg Array.size hl; simpa using this)
end Has

theorem below_row {b : Nat} {a w : World} (h : Below b a w) {g : Nat} (hg : b ≤ g) (cs : Array Value) : Below b a (w.setRow g cs) :=
  ⟨h.os, h.tape, h.output, by rw [size_setRow]; exact h.size, fun k hk => (setRow_other w g k cs (by omega)).trans (h.block k hk)⟩
theorem below_drewN {b : Nat} {a w : World} (h : Below b a w) (n : Nat) : Below b a (w.drewN n) := ⟨h.os, h.tape, h.output, h.size, h.block⟩

theorem Has.mid {g : Nat} {t : TypeId} : ∀ (vs : List Value) (o : Nat) (w : World) (l : List Value), Has w g t l → o + vs.length ≤ l.length →
    Has (w.setCells g o vs) g t (l.take o ++ vs ++ l.drop (o + vs.length))
  | [], o, w, l, h, _ => by simpa [World.setCells] using h
  | v :: r, o, w, l, h, hl => by
    have h1 := Has.mid r (o + 1) _ _ (h.put o v) (by simp at hl ⊢; omega)
    simp only [List.length_cons] at hl
    have e1 : (l.set o v).take (o + 1) = l.take o ++ [v] := by
      rw [List.take_set, List.take_succ_eq_append_getElem (by omega), List.set_append_right _ _ (by rw [List.length_take]; omega)]
      simp [List.length_take, Nat.min_eq_left (show o ≤ l.length by omega)]
    have e2 : (l.set o v).drop (o + 1 + r.length) = l.drop (o + (r.length + 1)) := by
      rw [List.drop_set_of_lt (by omega)]; congr 1; omega
    rw [e1, e2] at h1
    simpa [World.setCells] using h1
theorem Has.offMid {g g' : Nat} {t : TypeId} {l : List Value} (hg : g ≠ g') : ∀ (vs : List Value) (o : Nat) (w : World), Has w g t l → Has (w.setCells g' o vs) g t l
  | [], _, _, h => h
  | v :: r, o, _, h => Has.offMid hg r (o + 1) _ (h.off hg v)
theorem below_setCells {b : Nat} {a : World} {g : Nat} (hg : b ≤ g) : ∀ (vs : List Value) (o : Nat) (w : World), Below b a w → Below b a (w.setCells g o vs)
  | [], _, _, h => h
  | v :: r, o, _, h => below_setCells hg r (o + 1) _ (h.setCell hg v)
theorem Has.there {w : World} {g : Nat} {t : TypeId} {l : List Value} (h : Has w g t l) (o n : Nat) (hn : o + n ≤ l.length) : w.there g o n := fun j hj =>
  ⟨by rw [h.cell, List.getElem?_eq_getElem (by omega)]; rfl, h.free _⟩

/-- A slice that reads as a list of one-cell values, laid below block b. -/
def Sees (w : World) (b : Nat) (p : Option Addr) (l : List Value) : Prop :=
  0 < l.length → ∃ a, p = some a ∧ a.block < b ∧ ∀ j u, l[j]? = some u → w.cell? (a.add j) = some u
theorem add_block (a : Addr) (n : Nat) : (a.add n).block = a.block := by unfold Addr.add; split <;> rfl
theorem add_add (a : Addr) (i j : Nat) : (a.add i).add j = a.add (i + j) := by
  unfold Addr.add
  by_cases hi : i = 0 <;> by_cases hj : j = 0 <;> simp [hi, hj, Nat.add_assoc]
namespace Sees
variable {w w' : World} {b b' : Nat} {p : Option Addr} {l : List Value}
theorem nil (w : World) (b : Nat) (p : Option Addr) : Sees w b p [] := fun h => absurd h (by simp)
theorem get (h : Sees w b p l) (hl : 0 < l.length) : ∃ a, p = some a ∧ a.block < b ∧ ∀ j u, l[j]? = some u → w.cell? (a.add j) = some u := h hl
theorem keep' (h : Sees w b p l) (hk : ∀ a : Addr, a.block < b → w'.cell? a = w.cell? a) : Sees w' b p l := fun hl => by
  obtain ⟨a, e, hb, hc⟩ := h hl
  exact ⟨a, e, hb, fun j u hu => (hk _ (by rw [add_block]; exact hb)).trans (hc j u hu)⟩
theorem keep (h : Sees w b p l) (hb : Below b w w') : Sees w' b p l := h.keep' fun _ hp => hb.cell hp
theorem more (h : Sees w b p l) (hb : b ≤ b') : Sees w b' p l := fun hl => by
  obtain ⟨a, e, hb', hc⟩ := h hl
  exact ⟨a, e, by omega, hc⟩
theorem cut (h : Sees w b p l) {k cap : Nat} (hk : l.length ≤ cap) : Sees w b (if cap = k then p else p.map (·.add k)) (l.drop k) := fun hl => by
  have hl' : k < l.length := by rw [List.length_drop] at hl; omega
  obtain ⟨a, rfl, hb, hc⟩ := h (by omega)
  rw [if_neg (by omega)]
  refine ⟨a.add k, rfl, by rw [add_block]; exact hb, fun j u hu => ?_⟩
  rw [add_add]; exact hc _ u (by rw [← hu, List.getElem?_drop])
theorem head (h : Sees w b p l) (k : Nat) : Sees w b p (l.take k) := fun hl => by
  obtain ⟨a, e, hb, hc⟩ := h (by rw [List.length_take] at hl; omega)
  refine ⟨a, e, hb, fun j u hu => hc j u ?_⟩
  rw [List.getElem?_take] at hu
  split at hu
  · exact hu
  · cases hu
theorem of_has {g : Nat} {t : TypeId} (h : Has w g t l) (hg : g < b) : Sees w b (some ⟨g, 0, none⟩) l := fun _ =>
  ⟨_, rfl, hg, fun j u hu => by
    have e : (Addr.add ⟨g, 0, none⟩ j) = ⟨g, j, none⟩ := by unfold Addr.add; split <;> simp_all
    rw [e]; exact h.cellv hu⟩
end Sees
end Go.Proofs.YtefamkckoikeoaaDoor
/- Plain laws of paths, on: what path answers, what the document counts, names compared. Of no function of the program. No condition. -/
namespace Go.Proofs.YtefamkckoikeoaaDoor
open Go.RowKit Go.Sort
theorem okName_bad (s : ByteArray) (h : s.data = #[] ∨ 16 < (s.size : Int) ∨ s.data.toList = [46] ∨ s.data.toList = [46, 46]) : okName s.data.toList = false := by
  unfold okName
  have hsz : s.data.toList.length = s.size := rfl
  rcases h with h | h | h | h
  · rw [h]; rfl
  · have : decide (16 < s.data.toList.length) = true := by rw [hsz]; exact decide_eq_true (by omega)
    rw [this]; simp
  · rw [h]; rfl
  · rw [h]; rfl
theorem okName_good (s : ByteArray) (h1 : ¬ s.data = #[]) (h2 : (s.size : Int) ≤ 16) (h3 : ¬ s.data.toList = [46]) (h4 : ¬ s.data.toList = [46, 46]) : okName s.data.toList = s.data.toList.all okByte := by
  unfold okName
  have hsz : s.data.toList.length = s.size := rfl
  have e1 : (s.data.toList == []) = false := by rw [beq_eq_false_iff_ne]; intro e; exact h1 (Array.toList_eq_nil_iff.1 e)
  have e2 : decide (16 < s.data.toList.length) = false := by rw [hsz]; exact decide_eq_false (by omega)
  have e3 : (s.data.toList == [46]) = false := by rw [beq_eq_false_iff_ne]; exact h3
  have e4 : (s.data.toList == [46, 46]) = false := by rw [beq_eq_false_iff_ne]; exact h4
  rw [e1, e2, e3, e4]; rfl
theorem byte_at (s : ByteArray) (i : Nat) (h : i < s.size) : s.data.toList[i]? = some (s[i]'h) := by
  obtain ⟨⟨l⟩⟩ := s
  have h' : i < l.length := h
  show l[i]? = some _
  rw [List.getElem?_eq_getElem h']
  rfl
theorem all_take_succ {l : Tx} {i : Nat} {c : UInt8} (h : l[i]? = some c) : (l.take (i + 1)).all okByte = ((l.take i).all okByte && okByte c) := by
  rw [List.take_add_one, h]; simp
/-- What Up, Base, Depth, Join tell: of what is not Good nothing. -/
def upV (p : Tx) : Tx := if okPath p then upL p else []
def baseV (p : Tx) : Tx := if okPath p then baseL p else []
def depthV (p : Tx) : Nat := if okPath p then (nms p).length else 0
def joinV (p n : Tx) : Tx := if joinOk p n then joinL p n else []
theorem cut_upT (s : ByteArray) (i : Nat) : (⟨(s.data.toList.take i).toArray⟩ : ByteArray) = s.extract 0 i := by
  rw [Lib.extract_eq]; simp
theorem cut_fromT (s : ByteArray) (i : Nat) : (⟨(s.data.toList.drop i).toArray⟩ : ByteArray) = s.extract i s.size := by
  rw [Lib.extract_eq, List.take_of_length_le]
  rw [List.length_drop]; exact Nat.le_refl _
theorem no_text {p : ByteArray} (h : p.data = #[]) : p.toList = [] := by rw [Lib.toList_data, h]
theorem some_text {p : ByteArray} (h : ¬ p.data = #[]) : p.toList.isEmpty = false := by
  rw [Lib.toList_data]
  cases he : p.data.toList with
  | nil => exact absurd (Array.toList_eq_nil_iff.1 he) h
  | cons a l => rfl
/-- What Join tries: the whole. -/
theorem whole_eq (p n : ByteArray) (hp : ¬ p.data = #[]) : (p ++ ⟨#[47]⟩ ++ n).data.toList = joinL p.data.toList n.data.toList := by
  unfold joinL
  rw [if_neg (fun e => hp (Array.toList_eq_nil_iff.1 e))]
  simp [ByteArray.data_append]
theorem base_no (p : Tx) : 47 ∉ baseL p := by
  unfold baseL
  have h := nms_no p
  rw [List.getLastD_eq_getLast?]
  cases hl : (nms p).getLast? with
  | none => simp
  | some b => exact h b (List.mem_of_getLast? hl)
theorem last_parts (p : Tx) : (47 ∉ p ∧ upL p = [] ∧ baseL p = p) ∨ ∃ u b, p = u ++ 47 :: b ∧ 47 ∉ b ∧ upL p = u ∧ baseL p = b := by
  rcases last_cases ⟨p.toArray⟩ with ⟨_, h⟩ | ⟨i, _, _, h, h2⟩
  · exact .inl ⟨h, up_plain h⟩
  · refine .inr ⟨p.take i, p.drop (i + 1), h, h2, ?_⟩
    have h4 := up_sep (p.take i) (p.drop (i + 1)) h2
    have h' : p = p.take i ++ 47 :: p.drop (i + 1) := h
    rwa [← h'] at h4
theorem up_nil {u b : Tx} (h : okPath (u ++ 47 :: b) = true) : u ≠ [] := by
  rintro rfl
  have := ok_sep [] b h
  rw [ok_nil] at this
  cases this
theorem join_back {p : Tx} (h : okPath p = true) : joinOk (upL p) (baseL p) = true ∧ joinL (upL p) (baseL p) = p := by
  have hj : joinL (upL p) (baseL p) = p := by
    rcases last_parts p with ⟨_, h1, h2⟩ | ⟨u, b, he, _, h1, h2⟩
    · rw [h1, h2]; rfl
    · rw [h1, h2, he]
      exact if_neg (up_nil (he ▸ h))
  refine ⟨?_, hj⟩
  unfold joinOk
  rw [hj, h]
  have : (baseL p).contains 47 = false := by simpa using base_no p
  rw [this]; rfl
theorem up_less (p : Tx) : (upL p).length ≤ p.length ∧ (baseL p).length ≤ p.length := by
  rcases last_parts p with ⟨_, h1, h2⟩ | ⟨u, b, he, _, h1, h2⟩
  · rw [h1, h2]; simp
  · rw [h1, h2, he]; simp; omega
theorem up_within {p : Tx} (h : okPath p = true) (hu : upL p ≠ []) : underL p (upL p) = true ∧ cmpL (upL p) p = -1 ∧ depthV p = depthV (upL p) + 1 := by
  rcases last_parts p with ⟨_, h1, h2⟩ | ⟨u, b, he, hb, h1, h2⟩
  · exact absurd h1 hu
  · rw [h1]
    refine ⟨(under_iff _ _).2 ⟨h, b, he⟩, by rw [he]; exact cmpL_up u b, ?_⟩
    unfold depthV
    rw [h, he, ok_sep u b (he ▸ h), if_pos rfl, if_pos rfl, nms_sep, nms_plain hb]
    simp
theorem under_trans {p q r : Tx} (h1 : underL q p = true) (h2 : underL r q = true) : underL r p = true := by
  obtain ⟨_, s, rfl⟩ := (under_iff _ _).1 h1
  obtain ⟨h3, t, rfl⟩ := (under_iff _ _).1 h2
  exact (under_iff _ _).2 ⟨h3, s ++ 47 :: t, by simp⟩
theorem text_eq (p q : ByteArray) : (p.toList = q.toList) ↔ p = q := by
  rw [Lib.toList_data, Lib.toList_data]
  constructor
  · intro h; rw [← Lib.mk_data p, ← Lib.mk_data q, h]
  · rintro rfl; rfl
theorem ok_ne {n : Tx} (h : okName n = true) : n ≠ [] := by rintro rfl; cases h
theorem ok_len {n : Tx} (h : okName n = true) : n.length ≤ 16 := by
  unfold okName at h
  simp only [Bool.and_eq_true, Bool.not_eq_true', Bool.or_eq_false_iff, decide_eq_false_iff_not] at h
  omega
theorem jn_nil {T : List Tx} (h : ∀ n ∈ T, okName n = true ∧ 47 ∉ n) : jn T = [] ↔ T = [] := by
  constructor
  · intro e
    cases T with
    | nil => rfl
    | cons n r =>
      exfalso
      have hn := ok_ne (h n (by simp)).1
      cases r with
      | nil => exact hn e
      | cons m s => rw [jn_cons _ (by simp)] at e; simp at e
  · rintro rfl; rfl
theorem jn_len {T : List Tx} (h : ∀ n ∈ T, okName n = true ∧ 47 ∉ n) : (jn T).length ≤ 17 * T.length := by
  induction T with
  | nil => simp [jn]
  | cons n r ih =>
    have h1 := ok_len (h n (by simp)).1
    have h2 := ih (fun m hm => h m (List.mem_cons_of_mem _ hm))
    cases r with
    | nil => show n.length ≤ 17; omega
    | cons m s => rw [jn_cons _ (by simp), List.length_append, List.length_cons]; simp only [List.length_cons] at h2 ⊢; omega
theorem one_name {X : Tx} (h : okPath X = true) (hd : depthV X = 1) : 47 ∉ X ∧ okName X = true := by
  unfold depthV at hd
  rw [if_pos h] at hd
  obtain ⟨n, hn⟩ := List.length_eq_one_iff.1 hd
  have hx : X = n := by rw [← jn_nms X, hn]; rfl
  unfold okPath at h
  rw [hn] at h
  refine ⟨?_, ?_⟩
  · have := nms_no X n (by rw [hn]; simp)
    rwa [← hx] at this
  · rw [hx]; simpa using h
theorem name_one {X : Tx} (h : 47 ∉ X) (hn : okName X = true) : okPath X = true ∧ depthV X = 1 := by
  have h1 : okPath X = true := by unfold okPath; rw [nms_plain h]; simp [hn]
  exact ⟨h1, by unfold depthV; rw [if_pos h1, nms_plain h]; rfl⟩
theorem join_all {T : List Tx} (X : Tx) (h : ∀ n ∈ T, okName n = true ∧ 47 ∉ n) : joinL (jn T) X = jn (T ++ [X]) := by
  unfold joinL
  by_cases ht : T = []
  · rw [ht]; rfl
  · rw [if_neg (fun e => ht ((jn_nil h).1 e)), jn_snoc ht]
theorem nms_all {T : List Tx} {X : Tx} (h : ∀ n ∈ T, okName n = true ∧ 47 ∉ n) (hx : 47 ∉ X) : nms (jn (T ++ [X])) = T ++ [X] :=
  nms_jn (by simp) (fun n hn => by
    rcases List.mem_append.1 hn with h1 | h1
    · exact (h n h1).2
    · rw [List.mem_singleton.1 h1]; exact hx)
theorem join_step {T : List Tx} (X : Tx) (h : ∀ n ∈ T, okName n = true ∧ 47 ∉ n) (h4 : T.length ≤ 4) :
    joinOk (jn T) X = (okPath X && (depthV X == 1) && decide (T.length < 4)) := by
  unfold joinOk
  rw [join_all X h]
  by_cases hx : 47 ∈ X
  · have hc : X.contains 47 = true := by simpa using hx
    rw [hc, Bool.not_true, Bool.false_and]
    cases hg : okPath X with
    | false => rfl
    | true =>
      have : (depthV X == 1) = false := by
        rw [beq_eq_false_iff_ne]; intro hd; exact (one_name hg hd).1 hx
      rw [this]; rfl
  · have hc : X.contains 47 = false := by simpa using hx
    rw [hc, Bool.not_false, Bool.true_and]
    unfold okPath
    rw [nms_all h hx, List.all_append, List.length_append]
    have ha : T.all okName = true := List.all_eq_true.2 fun n hn => (h n hn).1
    rw [ha]
    cases hn : okName X with
    | false => simp [nms_plain hx, hn]
    | true =>
      have hd := (name_one hx hn).2
      rw [hd, nms_plain hx]
      simp [hn]
      omega
theorem join_got {T : List Tx} {X : Tx} (h : ∀ n ∈ T, okName n = true ∧ 47 ∉ n) (hk : joinOk (jn T) X = true) :
    joinV (jn T) X = jn (T ++ [X]) ∧ depthV (jn (T ++ [X])) = T.length + 1 ∧ baseV (jn (T ++ [X])) = X ∧ (T ≠ [] → underL (jn (T ++ [X])) (jn T) = true) ∧ (∀ n ∈ T ++ [X], okName n = true ∧ 47 ∉ n) := by
  have hv : joinV (jn T) X = jn (T ++ [X]) := by unfold joinV; rw [if_pos hk, join_all X h]
  have hk2 := hk
  unfold joinOk at hk
  rw [join_all X h, Bool.and_eq_true] at hk
  have hx : 47 ∉ X := by simpa using hk.1
  have hok := hk.2
  have hn := nms_all h hx
  refine ⟨hv, ?_, ?_, fun ht => ?_, ?_⟩
  · unfold depthV; rw [if_pos hok, hn]; simp
  · unfold baseV baseL; rw [if_pos hok, hn]; simp [List.getLastD_eq_getLast?]
  · exact (under_iff _ _).2 ⟨hok, X, jn_snoc ht X⟩
  · unfold okPath at hok
    rw [hn, Bool.and_eq_true] at hok
    intro n hm
    refine ⟨List.all_eq_true.1 hok.2 n hm, ?_⟩
    rcases List.mem_append.1 hm with h1 | h1
    · exact (h n h1).2
    · rw [List.mem_singleton.1 h1]; exact hx
abbrev bt (s : ByteArray) : Tx := s.data.toList
theorem text_size (p : ByteArray) : p.size = (bt p).length := rfl
/-- Where the walk through the text stands: the names so far, the text behind them, no slash since. -/
def NSt (S : Tx) (G : List Tx) (f i : Nat) : Prop := (i ≤ S.length ∧ f ≤ i ∧ nms S = G ++ nms (S.drop f) ∧ 47 ∉ (S.drop f).take (i - f)) ∨ (i = S.length + 1 ∧ G = nms S)
theorem NSt.len {S : Tx} {G : List Tx} {f i : Nat} (h : NSt S G f i) : G.length ≤ S.length + 1 := by
  have hc : (nms S).length ≤ S.length + 1 := by rw [nms_count]; have : S.count 47 ≤ S.length := List.count_le_length; omega
  rcases h with ⟨_, _, h3, _⟩ | ⟨_, h2⟩
  · rw [h3, List.length_append] at hc; omega
  · rw [h2]; exact hc
theorem NSt.last {S : Tx} {G : List Tx} {f : Nat} (h : NSt S G f S.length) : NSt S (G ++ [(S.drop f).take (S.length - f)]) (S.length + 1) (S.length + 1) := by
  rcases h with ⟨_, h2, h3, h4⟩ | ⟨h1, _⟩
  · refine .inr ⟨rfl, ?_⟩
    have e : (S.drop f).take (S.length - f) = S.drop f := List.take_of_length_le (by rw [List.length_drop]; exact Nat.le_refl _)
    rw [e] at h4 ⊢
    rw [h3, nms_plain h4]
  · omega
theorem drop_split (S : Tx) (f i : Nat) (hf : f ≤ i) (hi : i < S.length) : S.drop f = (S.drop f).take (i - f) ++ S[i] :: S.drop (i + 1) := by
  have h1 := (List.take_append_drop (i - f) (S.drop f)).symm
  rw [List.drop_drop, show f + (i - f) = i by omega, List.drop_eq_getElem_cons hi] at h1
  exact h1
theorem NSt.cut {S : Tx} {G : List Tx} {f i : Nat} (h : NSt S G f i) (hi : i < S.length) (hc : S[i] = 47) : NSt S (G ++ [(S.drop f).take (i - f)]) (i + 1) (i + 1) := by
  rcases h with ⟨_, h2, h3, h4⟩ | ⟨h1, _⟩
  · refine .inl ⟨by omega, Nat.le_refl _, ?_, by simp⟩
    have hd := drop_split S f i h2 hi
    rw [hc] at hd
    rw [h3]
    conv => lhs; rw [hd]
    rw [nms_sep, nms_plain h4, List.append_assoc]
  · omega
theorem NSt.on {S : Tx} {G : List Tx} {f i : Nat} (h : NSt S G f i) (hi : i < S.length) (hc : S[i] ≠ 47) : NSt S G f (i + 1) := by
  rcases h with ⟨_, h2, h3, h4⟩ | ⟨h1, _⟩
  · refine .inl ⟨by omega, by omega, h3, ?_⟩
    rw [show i + 1 - f = (i - f) + 1 by omega, List.take_add_one, List.getElem?_drop, show f + (i - f) = i by omega, List.getElem?_eq_getElem hi]
    simp only [List.mem_append, Option.mem_toList, Option.some.injEq, not_or]
    exact ⟨h4, fun e => hc (by simpa using e)⟩
  · omega
/-- The byte's test, by number. -/
theorem okByte_cases (c : UInt8) (n : Int) (hn : n = (c.toNat : Int)) :
    (okByte c = true ∧ ((97 ≤ n ∧ n ≤ 122) ∨ (n < 97 ∧ 48 ≤ n ∧ n ≤ 57) ∨ n = 46 ∨ n = 45 ∨ n = 95)) ∨
    (okByte c = false ∧ ¬ n = 46 ∧ ¬ n = 45 ∧ ¬ n = 95 ∧ ((n < 97 ∧ n < 48) ∨ (n < 97 ∧ ¬ n < 48 ∧ 57 < n) ∨ (¬ n < 97 ∧ 122 < n ∧ ¬ n < 48 ∧ 57 < n))) := by
  have e1 : (c == 46) = decide (n = 46) := by rw [hn, Bool.eq_iff_iff]; simp [← UInt8.toNat_inj]; omega
  have e2 : (c == 45) = decide (n = 45) := by rw [hn, Bool.eq_iff_iff]; simp [← UInt8.toNat_inj]; omega
  have e3 : (c == 95) = decide (n = 95) := by rw [hn, Bool.eq_iff_iff]; simp [← UInt8.toNat_inj]; omega
  cases hb : okByte c with
  | true =>
    refine .inl ⟨rfl, ?_⟩
    unfold okByte at hb
    rw [e1, e2, e3] at hb
    simp only [Bool.or_eq_true, Bool.and_eq_true, decide_eq_true_eq] at hb
    omega
  | false =>
    refine .inr ⟨rfl, ?_⟩
    unfold okByte at hb
    rw [e1, e2, e3] at hb
    simp only [Bool.or_eq_false_iff, Bool.and_eq_false_iff, decide_eq_false_iff_not] at hb
    omega
theorem okName_no {n : Tx} (h : n.length < 1 ∨ 16 < n.length ∨ n = [46] ∨ n = [46, 46]) : okName n = false := by
  unfold okName
  rcases h with h | h | h | h
  · have : n = [] := List.eq_nil_of_length_eq_zero (by omega)
    rw [this]; rfl
  · rw [decide_eq_true h]; simp
  · rw [h]; rfl
  · rw [h]; rfl
theorem okName_all {n : Tx} (h1 : ¬ n.length < 1) (h2 : ¬ 16 < n.length) (h3 : ¬ n = [46]) (h4 : ¬ n = [46, 46]) : okName n = n.all okByte := by
  unfold okName
  have e1 : (n == []) = false := by rw [beq_eq_false_iff_ne]; rintro rfl; exact h1 (by simp)
  have e3 : (n == [46]) = false := by rw [beq_eq_false_iff_ne]; exact h3
  have e4 : (n == [46, 46]) = false := by rw [beq_eq_false_iff_ne]; exact h4
  rw [e1, decide_eq_false h2, e3, e4]; rfl
theorem nms_len {p : Tx} : ∀ n ∈ nms p, n.length ≤ p.length := by
  induction p with
  | nil => intro n hn; simp [nms] at hn; simp [hn]
  | cons c r ih =>
    intro n hn
    rw [nms] at hn
    by_cases h : c = 47
    · rw [if_pos h] at hn
      rcases List.mem_cons.1 hn with rfl | hn
      · simp
      · have := ih n hn; simp only [List.length_cons]; omega
    · rw [if_neg h] at hn
      cases hr : nms r with
      | nil => exact absurd hr (nms_ne r)
      | cons m ms =>
        rw [hr] at hn ih
        rcases List.mem_cons.1 hn with rfl | hn
        · have := ih m (List.mem_cons_self ..); simp only [List.length_cons]; omega
        · have := ih n (List.mem_cons_of_mem _ hn); simp only [List.length_cons]; omega
theorem base_at (S : Tx) : ∃ j, j + 1 = (nms S).length ∧ ∃ h : j < (nms S).length, baseL S = (nms S)[j] := by
  have h0 := nms_pos S
  refine ⟨(nms S).length - 1, by omega, by omega, ?_⟩
  unfold baseL
  rw [List.getLastD_eq_getLast?, List.getLast?_eq_getElem?, List.getElem?_eq_getElem (show (nms S).length - 1 < (nms S).length by omega)]
  rfl
theorem take_last (N : List Tx) {j : Nat} (h : j + 1 = N.length) : N.take j = N.dropLast := by
  rw [List.dropLast_eq_take]; congr 1; omega
theorem one_no (X : Tx) : ((nms X).length = 1) ↔ X.contains 47 = false := by
  rw [nms_count]
  have : X.count 47 = 0 ↔ 47 ∉ X := List.count_eq_zero
  constructor
  · intro h; have h2 := this.1 (by omega); simpa using h2
  · intro h; have h2 := this.2 (by simpa using h); omega
theorem under_no {p d : Tx} (h : okPath p = false ∨ okPath d = false ∨ ¬ d.length < p.length ∨ ¬ p.take d.length = d) : underL p d = false := by
  cases hu : underL p d with
  | false => rfl
  | true =>
    exfalso
    obtain ⟨h1, r, rfl⟩ := (under_iff _ _).1 hu
    rcases h with h | h | h | h
    · rw [h1] at h; cases h
    · rw [ok_sep _ _ h1] at h; cases h
    · rw [List.length_append, List.length_cons] at h; omega
    · rw [List.take_left] at h; exact h rfl
theorem under_at {p d : Tx} (h1 : okPath p = true) (h3 : d.length < p.length) (h4 : p.take d.length = d) : underL p d = (p[d.length] == 47) := by
  have hs : p = d ++ p[d.length] :: p.drop (d.length + 1) := by
    have := (List.take_append_drop d.length p).symm
    rw [h4, List.drop_eq_getElem_cons h3] at this
    exact this
  cases hc : (p[d.length] == 47) with
  | true =>
    rw [beq_iff_eq] at hc
    rw [hc] at hs
    exact (under_iff _ _).2 ⟨h1, _, hs⟩
  | false =>
    cases hu : underL p d with
    | false => rfl
    | true =>
      exfalso
      obtain ⟨_, r, hr⟩ := (under_iff _ _).1 hu
      rw [hs] at hr
      have := List.append_cancel_left hr
      injection this with e1 _
      rw [e1] at hc
      cases hc
/-- Names compared one by one, by bytes. -/
def ncmp : List Tx → List Tx → Int
  | [], [] => 0
  | [], _ :: _ => -1
  | _ :: _, [] => 1
  | x :: X, y :: Y => if Op.bytesLess x y = true then -1 else if (Op.bytesLess x y || x == y) = false then 1 else ncmp X Y
theorem bl_nil (x : Tx) : Op.bytesLess x [] = false := by cases x <;> rfl
theorem bl_cons (y : UInt8) (Y : Tx) : Op.bytesLess [] (y :: Y) = true := rfl
theorem bl_same (c : UInt8) (x y : Tx) : Op.bytesLess (c :: x) (c :: y) = Op.bytesLess x y := by
  show (decide (c < c) || (c == c && Op.bytesLess x y)) = _
  have : ¬ c < c := UInt8.lt_irrefl c
  simp [this]
theorem bl_diff {c d : UInt8} (h : c ≠ d) (x y : Tx) : Op.bytesLess (c :: x) (d :: y) = decide (c < d) := by
  show (decide (c < d) || (c == d && Op.bytesLess x y)) = _
  have : (c == d) = false := by rw [beq_eq_false_iff_ne]; exact h
  rw [this]; simp
theorem ncmp_same (x : Tx) (X Y : List Tx) : ncmp (x :: X) (x :: Y) = ncmp X Y := by
  have h1 : Op.bytesLess x x = false := by
    induction x with
    | nil => rfl
    | cons c r ih => rw [bl_same, ih]
  rw [ncmp, h1]; simp
theorem ncmp_cons (c : UInt8) (x y : Tx) (X Y : List Tx) : ncmp ((c :: x) :: X) ((c :: y) :: Y) = ncmp (x :: X) (y :: Y) := by
  rw [ncmp, ncmp, bl_same]
  have : ((c :: x) == (c :: y)) = (x == y) := by rw [Bool.eq_iff_iff]; simp
  rw [this]
theorem nms_slash (r : Tx) : nms (47 :: r) = [] :: nms r := by rw [nms, if_pos rfl]
theorem nms_byte {c : UInt8} (h : c ≠ 47) (r : Tx) : ∃ n ns, nms r = n :: ns ∧ nms (c :: r) = (c :: n) :: ns := by
  cases hr : nms r with
  | nil => exact absurd hr (nms_ne r)
  | cons n ns => exact ⟨n, ns, rfl, by rw [nms, if_neg h, hr]⟩
theorem ncmp_nms : ∀ (a b : Tx), ncmp (nms a) (nms b) = cmpL a b
  | [], [] => rfl
  | [], d :: s => by
    show ncmp [[]] (nms (d :: s)) = -1
    by_cases h : d = 47
    · rw [h, nms_slash, ncmp_same]
      cases hs : nms s with
      | nil => exact absurd hs (nms_ne s)
      | cons n ns => rfl
    · obtain ⟨n, ns, _, h2⟩ := nms_byte h s
      rw [h2, ncmp, bl_cons, if_pos rfl]
  | c :: r, [] => by
    show ncmp (nms (c :: r)) [[]] = 1
    by_cases h : c = 47
    · rw [h, nms_slash, ncmp_same]
      cases hs : nms r with
      | nil => exact absurd hs (nms_ne r)
      | cons n ns => rfl
    · obtain ⟨n, ns, _, h2⟩ := nms_byte h r
      rw [h2, ncmp, bl_nil]; rfl
  | c :: r, d :: s => by
    have ih := ncmp_nms r s
    rw [cmpL]
    by_cases hcd : c = d
    · subst hcd
      rw [if_pos rfl]
      by_cases h : c = 47
      · rw [h, nms_slash, nms_slash, ncmp_same, ih]
      · obtain ⟨n, ns, h1, h2⟩ := nms_byte h r
        obtain ⟨m, ms, h3, h4⟩ := nms_byte h s
        rw [h2, h4, ncmp_cons, ← h1, ← h3, ih]
    · rw [if_neg hcd]
      by_cases h : c = 47
      · have hd : d ≠ 47 := fun e => hcd (by rw [h, e])
        obtain ⟨m, ms, _, h4⟩ := nms_byte hd s
        rw [h, nms_slash, h4, ncmp, bl_cons, if_pos rfl]
        unfold rankB
        rw [if_pos rfl, if_neg hd]
        exact (cmpI_lt (by omega)).symm
      · obtain ⟨n, ns, _, h2⟩ := nms_byte h r
        by_cases hd : d = 47
        · rw [hd, nms_slash, h2, ncmp, bl_nil]
          unfold rankB
          rw [if_pos rfl, if_neg h]
          exact (cmpI_gt (by omega)).symm
        · obtain ⟨m, ms, _, h4⟩ := nms_byte hd s
          rw [h2, h4, ncmp, bl_diff hcd]
          unfold rankB
          rw [if_neg h, if_neg hd]
          have he : ((c :: n) == (d :: m)) = false := by rw [beq_eq_false_iff_ne]; intro e; injection e with e1 _; exact hcd e1
          by_cases hlt : c < d
          · rw [decide_eq_true hlt, if_pos rfl]
            have h5 : c.toNat < d.toNat := UInt8.lt_iff_toNat_lt.1 hlt
            exact (cmpI_lt (by omega)).symm
          · rw [decide_eq_false hlt, he]
            have h5 : ¬ c.toNat < d.toNat := fun k => hlt (UInt8.lt_iff_toNat_lt.2 k)
            have h6 : c.toNat ≠ d.toNat := fun k => hcd (UInt8.toNat_inj.1 k)
            exact (cmpI_gt (by omega)).symm
theorem ncmp_end (X Y : List Tx) (h : X = [] ∨ Y = []) : ncmp X Y = Lib.compareInt X.length Y.length := by
  cases X with
  | nil => cases Y with
    | nil => rfl
    | cons y Y => exact (cmpI_lt (by simp)).symm
  | cons x X => cases Y with
    | nil => exact (cmpI_gt (by simp)).symm
    | cons y Y => rcases h with h | h <;> cases h
/-- Each ahead of the next ones. -/
abbrev Asc (R : List Tx) : Prop := R.Pairwise fun x y => cmpL x y = -1
/-- What Sort answers of L: the Good ones, each once, in order. -/
def Srt (L R : List Tx) : Prop := Asc R ∧ ∀ x, x ∈ R ↔ x ∈ L ∧ okPath x = true
theorem cmpL_flip {x y : Tx} (h : cmpL x y = -1) : cmpL y x = 1 := by rw [cmpL_neg, h]; rfl
theorem asc_unique : ∀ {A B : List Tx}, Asc A → Asc B → (∀ x, x ∈ A ↔ x ∈ B) → A = B
  | [], [], _, _, _ => rfl
  | [], b :: B, _, _, h => absurd ((h b).2 (List.mem_cons_self ..)) (by simp)
  | a :: A, [], _, _, h => absurd ((h a).1 (List.mem_cons_self ..)) (by simp)
  | a :: A, b :: B, ha, hb, h => by
    obtain ⟨ha1, ha2⟩ := List.pairwise_cons.1 ha
    obtain ⟨hb1, hb2⟩ := List.pairwise_cons.1 hb
    have hab : a = b := by
      rcases List.mem_cons.1 ((h a).1 (List.mem_cons_self ..)) with e | e
      · exact e
      · rcases List.mem_cons.1 ((h b).2 (List.mem_cons_self ..)) with e2 | e2
        · exact e2.symm
        · have h1 := ha1 b e2
          have h2 := hb1 a e
          rw [cmpL_flip h2] at h1
          cases h1
    subst hab
    have hn : ∀ {C : List Tx}, (∀ x ∈ C, cmpL a x = -1) → a ∉ C := fun hc hm => by
      have h1 := hc a hm
      rw [cmpL_self] at h1
      cases h1
    rw [asc_unique ha2 hb2 (fun x => ?_)]
    constructor
    · intro hx
      rcases List.mem_cons.1 ((h x).1 (List.mem_cons_of_mem _ hx)) with e | e
      · exact absurd (e ▸ hx) (hn ha1)
      · exact e
    · intro hx
      rcases List.mem_cons.1 ((h x).2 (List.mem_cons_of_mem _ hx)) with e | e
      · exact absurd (e ▸ hx) (hn hb1)
      · exact e
theorem srt_unique {L A B : List Tx} (ha : Srt L A) (hb : Srt L B) : A = B := asc_unique ha.1 hb.1 fun x => (ha.2 x).trans (hb.2 x).symm
theorem srt_again {L R : List Tx} (h : Srt L R) : Srt R R := ⟨h.1, fun x => ⟨fun hx => ⟨hx, ((h.2 x).1 hx).2⟩, fun hx => hx.1⟩⟩
theorem srt_bad {L R : List Tx} {x : Tx} (h : Srt L R) (hx : okPath x = false) : Srt (L ++ [x]) R := ⟨h.1, fun y => by
  rw [h.2 y, List.mem_append, List.mem_singleton]
  constructor
  · exact fun ⟨h1, h2⟩ => ⟨.inl h1, h2⟩
  · rintro ⟨h1 | rfl, h2⟩
    · exact ⟨h1, h2⟩
    · rw [hx] at h2; cases h2⟩
theorem srt_same {L R : List Tx} {x : Tx} (h : Srt L R) (hx : x ∈ R) : Srt (L ++ [x]) R := ⟨h.1, fun y => by
  rw [List.mem_append, List.mem_singleton]
  constructor
  · intro hy; have := (h.2 y).1 hy; exact ⟨.inl this.1, this.2⟩
  · rintro ⟨h1 | rfl, h2⟩
    · exact (h.2 y).2 ⟨h1, h2⟩
    · exact hx⟩
theorem cmpL_back {x y : Tx} (h : cmpL x y = 1) : cmpL y x = -1 := by rw [cmpL_neg, h]
theorem before_all {R : List Tx} {x : Tx} {k : Nat} (h : Asc R) (hk : k < R.length) (h1 : cmpL R[k] x = -1) : ∀ y ∈ R.take (k + 1), cmpL y x = -1 := by
  intro y hy
  obtain ⟨j, hj, rfl⟩ := List.mem_take_iff_getElem.1 hy
  by_cases e : j = k
  · subst e; exact h1
  · have h2 := List.pairwise_iff_getElem.1 h j k (by omega) hk (by omega)
    have h3 := cmpL_trans (show cmpL R[j] R[k] ≤ 0 by omega) (show cmpL R[k] x ≤ 0 by omega)
    rcases cmpL_vals R[j] x with e1 | e1 | e1
    · exact e1
    · exfalso
      have e2 := cmpL_zero.1 e1
      rw [e2] at h2
      have := cmpL_neg x R[k]
      omega
    · omega
theorem after_more {R : List Tx} {x : Tx} {k : Nat} (hk : k < R.length) (h1 : cmpL R[k] x = 1) (h : ∀ y ∈ R.drop (k + 1), cmpL y x = 1) : ∀ y ∈ R.drop k, cmpL y x = 1 := by
  rw [List.drop_eq_getElem_cons hk]
  intro y hy
  rcases List.mem_cons.1 hy with rfl | hy
  · exact h1
  · exact h y hy
theorem srt_put {L R : List Tx} {x : Tx} {k : Nat} (h : Srt L R) (hx : okPath x = true) (ha : ∀ y ∈ R.drop k, cmpL y x = 1) (hb : ∀ y ∈ R.take k, cmpL y x = -1) : Srt (L ++ [x]) (R.take k ++ [x] ++ R.drop k) := by
  have hr : Asc (R.take k ++ R.drop k) := by rw [List.take_append_drop]; exact h.1
  obtain ⟨h1, h2, h3⟩ := List.pairwise_append.1 hr
  refine ⟨List.pairwise_append.2 ⟨List.pairwise_append.2 ⟨h1, by simp, fun y hy z hz => ?_⟩, h2, fun y hy z hz => ?_⟩, fun y => ?_⟩
  · rw [List.mem_singleton.1 hz]; exact hb y hy
  · rcases List.mem_append.1 hy with hy | hy
    · exact h3 y hy z hz
    · rw [List.mem_singleton.1 hy]; exact cmpL_back (ha z hz)
  · have hm : y ∈ R ↔ y ∈ R.take k ∨ y ∈ R.drop k := by rw [← List.mem_append, List.take_append_drop]
    rw [List.mem_append, List.mem_append, List.mem_append, List.mem_singleton]
    constructor
    · rintro ((h4 | rfl) | h4)
      · have := (h.2 y).1 (hm.2 (.inl h4)); exact ⟨.inl this.1, this.2⟩
      · exact ⟨.inr rfl, hx⟩
      · have := (h.2 y).1 (hm.2 (.inr h4)); exact ⟨.inl this.1, this.2⟩
    · rintro ⟨h4 | rfl, h5⟩
      · rcases hm.1 ((h.2 y).2 ⟨h4, h5⟩) with h6 | h6
        · exact .inl (.inl h6)
        · exact .inr h6
      · exact .inl (.inr rfl)
end Go.Proofs.YtefamkckoikeoaaDoor
/- A value that reads as texts; a row of texts that a call owns; one text put behind it. No condition. -/
namespace Go.Proofs.YtefamkckoikeoaaDoor
open Go.RowKit Go.Sort
theorem str_info : (Tryd.prog.info? 9).map (fun i => (i.zero, i.size, i.bytes)) = some (some (.string ⟨#[]⟩), 1, 16) := by kernel_rfl
theorem own_base7 {w : World} {base n : Nat} {e : TypeId} {v : Value} {xs : List Value} (h : w.ownsRow base e 1 v n xs) : ∀ k, Value.ownBlock v = some k → base ≤ k := by
  intro k hk
  rcases h.2 with ⟨rfl, _⟩ | ⟨g, cap, cur, rfl, hb, _⟩
  · cases hk
  · have e : g = k := by simpa [Value.ownBlock] using hk
    omega
theorem own_below7 {w w' : World} {base n : Nat} {e : TypeId} {v : Value} {xs : List Value} (h : w.ownsRow base e 1 v n xs) (hb : RowKit.Below w.heap.size w w') : w'.ownsRow base e 1 v n xs :=
  h.kept (row := none) ⟨hb.os, hb.tape, hb.output, hb.size, fun k hk _ => hb.block k hk⟩ (by
    rcases h.2 with ⟨rfl, _⟩ | ⟨k, cap, cur, rfl, _⟩
    · exact .inl rfl
    · exact .inr (by simp [Value.ownBlock]))
/-- One text is put behind a row that the call owns. -/
theorem wp_addT {ops : Array Oper} {rest : List Oper} {o : Oper} {a : Act} {Q : Exit → Act → World → Prop}
    (hgd : o.guard = none) (sl x : Operand) (ho : o.op = .call { callee := .builtin .append, args := #[sl, x], argTypes := #[39, 39] }) {w : World} {base : Nat} {v : Value} {xs : List Value} (R : w.ownsRow base 9 1 v xs.length xs) (hbase : base ≤ w.heap.size)
    (hs : a.eval sl = v) (g : Nat) (u : Value) (hx : a.eval x = .slice (some ⟨g, 0, none⟩) 1 1) (hc : w.cell? ⟨g, 0, none⟩ = some u) (hu : u.oneCell' = true) (hn : xs.length ≤ 1000000)
    (h : ∀ v' w', w'.ownsRow base 9 1 v' (xs ++ [u]).length (xs ++ [u]) → Below base w w' → wpList Tryd.prog ops Q rest (a.put o.dst v') w') : wpList Tryd.prog ops Q (o :: rest) a w := by
  obtain ⟨i0, hi, hz0, hz1, hz2⟩ := info_parts str_info
  refine wpList_append_own _ hgd sl x 39 ho base 9 i0 (.string ⟨#[]⟩) 1 16 Tryd.underlying39 hi hz0 hz1 hz2 rfl (by decide) v xs.length xs hs R ⟨g, 0, none⟩ 1 1 [u] hx rfl ?_ ?_ (by unfold maxLen; omega) ?_ hbase
    fun v' w' ho' hg' _ => h v' w' (by rw [List.length_append]; exact ho') ((Below.refl base w).grown hg' hbase (fun k hk => own_base7 R k hk))
  · intro j y hj
    cases j with
    | zero => simp at hj; subst hj; simpa [Addr.add] using hc
    | succ j => simp at hj
  · intro y hy; simp at hy; subst hy; exact hu
  · exact Nat.le_trans (Nat.mul_le_mul (show xs.length + 1 ≤ 1000001 by omega) (Nat.le_refl 16)) (by decide)
/-- The value v reads as these texts. -/
def Ts (w : World) (v : Value) (L : List Tx) : Prop := ∃ q c, v = .slice q L.length c ∧ L.length ≤ c ∧ Sees w w.heap.size q (L.map encStr)
theorem Ts.keep {w w' : World} {v : Value} {L : List Tx} (h : Ts w v L) (hb : Below w.heap.size w w') : Ts w' v L := by
  obtain ⟨q, c, h1, h2, h3⟩ := h
  exact ⟨q, c, h1, h2, (h3.keep hb).more hb.size⟩
theorem Ts.nil (w : World) : Ts w (.slice none 0 0) [] := ⟨none, 0, rfl, Nat.le_refl _, Sees.nil _ _ _⟩
theorem Ts.own {w : World} {base n : Nat} {v : Value} {L : List Tx} (h : w.ownsRow base 9 1 v n (L.map encStr)) : Ts w v L := by
  have hn : L.length = n := by have := h.1; simpa using this
  subst hn
  rcases h.2 with ⟨rfl, h0⟩ | ⟨g, cap, cur, rfl, hb, hg, h1, _⟩
  · have : L = [] := List.eq_nil_of_length_eq_zero h0
    subst this
    exact Ts.nil w
  · refine ⟨_, cap, rfl, h1, fun _ => ⟨_, rfl, (Array.getElem?_eq_some_iff.1 hg).1, ?_⟩⟩
    exact h.cells (g := g) rfl
/-- One text is put behind a row that the call owns (more room than wp_addT). -/
theorem wp_addU {ops : Array Oper} {rest : List Oper} {o : Oper} {a : Act} {Q : Exit → Act → World → Prop}
    (hgd : o.guard = none) (sl x : Operand) (ho : o.op = .call { callee := .builtin .append, args := #[sl, x], argTypes := #[39, 39] }) {w : World} {base : Nat} {v : Value} {xs : List Value} (R : w.ownsRow base 9 1 v xs.length xs) (hbase : base ≤ w.heap.size)
    (hs : a.eval sl = v) (g : Nat) (u : Value) (hx : a.eval x = .slice (some ⟨g, 0, none⟩) 1 1) (hc : w.cell? ⟨g, 0, none⟩ = some u) (hu : u.oneCell' = true) (hn : xs.length ≤ 2000000)
    (h : ∀ v' w', w'.ownsRow base 9 1 v' (xs ++ [u]).length (xs ++ [u]) → Below base w w' → wpList Tryd.prog ops Q rest (a.put o.dst v') w') : wpList Tryd.prog ops Q (o :: rest) a w := by
  obtain ⟨i0, hi, hz0, hz1, hz2⟩ := info_parts str_info
  refine wpList_append_own _ hgd sl x 39 ho base 9 i0 (.string ⟨#[]⟩) 1 16 Tryd.underlying39 hi hz0 hz1 hz2 rfl (by decide) v xs.length xs hs R ⟨g, 0, none⟩ 1 1 [u] hx rfl ?_ ?_ (by unfold maxLen; omega) ?_ hbase
    fun v' w' ho' hg' _ => h v' w' (by rw [List.length_append]; exact ho') ((Below.refl base w).grown hg' hbase (fun k hk => own_base7 R k hk))
  · intro j y hj
    cases j with
    | zero => simp at hj; subst hj; simpa [Addr.add] using hc
    | succ j => simp at hj
  · intro y hy; simp at hy; subst hy; exact hu
  · exact Nat.le_trans (Nat.mul_le_mul (show xs.length + 1 ≤ 2000001 by omega) (Nat.le_refl 16)) (by decide)
theorem gtr_text (t : TypeId) (a b : ByteArray) : binOp .gtr t (.string a) (.string b) = pure (.bool !(Op.bytesLess a.toList b.toList || a.toList == b.toList)) := by simp [binOp, Op.stringOp]
/-- As Ts, and a nil slice has no room. -/
def Tn (w : World) (v : Value) (L : List Tx) : Prop := ∃ q c, v = .slice q L.length c ∧ L.length ≤ c ∧ (q = none → c = 0) ∧ Sees w w.heap.size q (L.map encStr)
theorem Tn.ts {w : World} {v : Value} {L : List Tx} (h : Tn w v L) : Ts w v L := by
  obtain ⟨q, c, h1, h2, _, h3⟩ := h
  exact ⟨q, c, h1, h2, h3⟩
theorem Tn.keep {w w' : World} {v : Value} {L : List Tx} (h : Tn w v L) (hb : Below w.heap.size w w') : Tn w' v L := by
  obtain ⟨q, c, h1, h2, h3, h4⟩ := h
  exact ⟨q, c, h1, h2, h3, (h4.keep hb).more hb.size⟩
theorem Tn.nil (w : World) : Tn w (.slice none 0 0) [] := ⟨none, 0, rfl, Nat.le_refl _, fun _ => rfl, Sees.nil _ _ _⟩
theorem Tn.own {w : World} {base : Nat} {v : Value} {L : List Tx} (h : w.ownsRow base 9 1 v L.length (L.map encStr)) : Tn w v L := by
  rcases h.2 with ⟨rfl, h0⟩ | ⟨g, cap, cur, rfl, hb, hg, h1, _⟩
  · have : L = [] := List.eq_nil_of_length_eq_zero h0
    subst this
    exact Tn.nil w
  · refine ⟨_, cap, rfl, h1, fun e => by (cases e), fun _ => ⟨_, rfl, (Array.getElem?_eq_some_iff.1 hg).1, ?_⟩⟩
    exact h.cells (g := g) rfl
end Go.Proofs.YtefamkckoikeoaaDoor
/- Contract: the document's own names. Condition: a text of at most 2^20 bytes. -/
namespace Go.Proofs.YtefamkckoikeoaaDoor
open Go.RowKit Go.Sort
set_option maxHeartbeats 4000000 in
set_option maxRecDepth 100000 in
theorem names_any (s : ByteArray) (hs : s.size ≤ 1048576) (w : World) :
    Calls Tryd.prog 99 #[.string s] w fun e w' => (∃ v, e = .returned v ∧ Ts w' v (nms s.data.toList)) ∧ Below w.heap.size w w' := by
  have hsz : s.data.toList.length = s.size := rfl
  have HNIL := Lib.hid (World.ownsRow_nil w w.heap.size 9 1)
  have HST : Hid (NSt s.data.toList [] 0 0) := Lib.hid (.inl ⟨by omega, Nat.le_refl _, by simp, by simp⟩)
  have HSZ := Lib.hid hsz
  clear hsz
  go_enter Tryd.func99, Tryd.ntmps99
  go_wp2_with fail
  go_loopw [3, 4, 5] (fun v vf vi wr => ∃ (G : List Tx) (f i : Nat), i ≤ s.size + 1 ∧ f ≤ i ∧ vi = .int .i64 i ∧ vf = .int .i64 f ∧ NSt s.data.toList G f i ∧ wr.ownsRow w.heap.size 9 1 v (G.map encStr).length (G.map encStr) ∧ Below w.heap.size w wr) (fun _ _ vi _ => s.size + 1 - (intOf vi).toNat)
  case atStart => exact ⟨[], 0, 0, by omega, Nat.le_refl _, rfl, rfl, HST.out, HNIL.out, Below.refl _ _⟩
  case round =>
    rename_i wr
    obtain ⟨G, f, i, hi, hfi, rfl, rfl, hst, hrow, hB⟩ := hrel
    have HROW := Lib.hid hrow
    have HB := Lib.hid hB
    have HS := Lib.hid hst
    have hgl := hst.len
    rw [HSZ.out] at hgl
    have kw : IntKind.i64.wrap ((i : Int) + 1) = ((i + 1 : Nat) : Int) := by rw [IntWalk.i64_in _ (by omega)]; omega
    clear hrow hB hst
    by_cases hle : i ≤ s.size
    · have HLEN : Hid ((G.map encStr).length ≤ 2000000) := Lib.hid (by rw [List.length_map]; omega)
      have hcut : s.extract f i = ⟨((s.data.toList.drop f).take (i - f)).toArray⟩ := Lib.extract_eq s f i
      have HCUT := Lib.hid hcut
      have hge : w.heap.size ≤ wr.heap.size := HB.out.size
      clear hcut
      have HREL : Hid (∀ (v3 : Value) (w3 : World), w3.ownsRow w.heap.size 9 1 v3 (G.map encStr ++ [Value.string (s.extract f i)]).length (G.map encStr ++ [Value.string (s.extract f i)]) → Below w.heap.size (wr.alloc (.cells #[.string (s.extract f i)] 9)) w3 → NSt s.data.toList (G ++ [(s.data.toList.drop f).take (i - f)]) (i + 1) (i + 1) →
          ∃ (G' : List Tx) (f' i' : Nat), i' ≤ s.size + 1 ∧ f' ≤ i' ∧ (Value.int .i64 ((i : Int) + 1)) = .int .i64 i' ∧ (Value.int .i64 ((i : Int) + 1)) = .int .i64 f' ∧ NSt s.data.toList G' f' i' ∧ w3.ownsRow w.heap.size 9 1 v3 (G'.map encStr).length (G'.map encStr) ∧ Below w.heap.size w w3) :=
        Lib.hid (fun v3 w3 h1 h2 h3 => by
          rw [HCUT.out] at h1
          rw [show G.map encStr ++ [Value.string ⟨((s.data.toList.drop f).take (i - f)).toArray⟩] = (G ++ [(s.data.toList.drop f).take (i - f)]).map encStr by rw [List.map_append]; rfl] at h1
          exact ⟨_, i + 1, i + 1, by omega, Nat.le_refl _, by go_num, by go_num, h3, h1, (HB.out.alloc HB.out.size _).trans h2⟩)
      by_cases heq : i = s.size
      · subst heq
        have HS3 := Lib.hid HS.out.last
        rw [HSZ.out] at HS3
        go_wp2_with (refine wp_addU rfl (.tmp 22) (.tmp 27) rfl (base := w.heap.size) (HROW.out.alloc (.cells #[.string (s.extract f s.size)] 9)) (by simp; omega) rfl wr.heap.size (.string (s.extract f s.size)) rfl (by simp) rfl HLEN.out ?_; intro v3 w3 h1 h2; have HROW2 := Lib.hid h1; have HB5 := Lib.hid h2; clear h1 h2 HROW)
        refine ⟨HREL.out _ _ HROW2.out HB5.out HS3.out, ?_⟩
        simp [intOf] <;> omega
      · have hlt : i < s.size := by omega
        have hget : s.data.toList[i]'hlt = s[i]'hlt := by
          have h1 := byte_at s i hlt
          exact (List.getElem?_eq_some_iff.1 h1).2
        have k0 : ¬ (i : Int) = (s.size : Int) := by omega
        by_cases h47 : s[i]'hlt = 47
        · have HS3 := Lib.hid (HS.out.cut (show i < s.data.toList.length from hlt) (hget.trans h47))
          have k1 : ((s[i]'hlt).toNat : Int) = 47 := congrArg (fun c : UInt8 => (c.toNat : Int)) h47
          clear hget
          go_wp2_with (refine wp_addU rfl (.tmp 22) (.tmp 27) rfl (base := w.heap.size) (HROW.out.alloc (.cells #[.string (s.extract f i)] 9)) (by simp; omega) rfl wr.heap.size (.string (s.extract f i)) rfl (by simp) rfl HLEN.out ?_; intro v3 w3 h1 h2; have HROW2 := Lib.hid h1; have HB5 := Lib.hid h2; clear h1 h2 HROW)
          refine ⟨HREL.out _ _ HROW2.out HB5.out HS3.out, ?_⟩
          simp [intOf]; omega
        · have HS3 := Lib.hid (HS.out.on (show i < s.data.toList.length from hlt) (by rw [hget]; exact h47))
          have k1 : ¬ ((s[i]'hlt).toNat : Int) = 47 := fun e => h47 (UInt8.toNat_inj.1 (by show (s[i]'hlt).toNat = 47; omega))
          have k2 : ((i : Int) == (s.size : Int)) = false := by rw [beq_eq_false_iff_ne]; exact k0
          have k3 : (((s[i]'hlt).toNat : Int) == 47) = false := by rw [beq_eq_false_iff_ne]; exact k1
          clear hget h47 HREL
          go_wp2_with fail
          go_roundw
          case rel => exact ⟨G, f, i + 1, by omega, by omega, by go_num, rfl, HS3.out, HROW.out, HB.out⟩
          case measure => simp [intOf]; omega
    · have hi2 : i = s.size + 1 := by omega
      have hg : G = nms s.data.toList := by
        rcases HS.out with ⟨h1, _⟩ | ⟨_, h2⟩
        · rw [HSZ.out] at h1; omega
        · exact h2
      have k0 : ¬ (i : Int) ≤ (s.size : Int) := by omega
      have HT := Lib.hid (Ts.own HROW.out)
      rw [hg] at HT
      clear hg HROW
      go_wp2_with fail
      go_ret
      exact ⟨⟨_, rfl, HT.out⟩, HB.out⟩
end Go.Proofs.YtefamkckoikeoaaDoor
/- Contract: the document's own Good. Condition: a text of at most 2^20 bytes. -/
namespace Go.Proofs.YtefamkckoikeoaaDoor
open Go.RowKit
set_option maxHeartbeats 8000000 in
set_option maxRecDepth 100000 in
theorem rgood_any (s : ByteArray) (hs : s.size ≤ 1048576) (w : World) :
    Calls Tryd.prog 83 #[.string s] w fun e w' => e = .returned (.bool (okPath s.data.toList)) ∧ Below w.heap.size w w' := by
  have HN := Lib.hid (names_any s hs w)
  have hcl : (nms s.data.toList).length ≤ 1048577 := by rw [nms_count]; have : s.data.toList.count 47 ≤ s.data.toList.length := List.count_le_length; have : s.data.toList.length = s.size := rfl; omega
  have hns : ∀ n ∈ nms s.data.toList, n.length ≤ 1048576 := fun n hn => by
    have h1 := nms_len n hn
    have h2 : s.data.toList.length = s.size := rfl
    omega
  obtain ⟨r, hr⟩ : ∃ r, okPath s.data.toList = r := ⟨_, rfl⟩
  have HR := Lib.hid hr
  rw [hr]
  clear hr
  unfold okPath at HR
  generalize nms s.data.toList = N at *
  go_enter Tryd.func83, Tryd.ntmps83
  go_wp2_with fail
  refine (HN.out).mono ?_
  rintro e w2 ⟨⟨v, rfl, q, c, rfl, hc, hsee⟩, hb⟩
  have HB := Lib.hid hb
  have HS := Lib.hid hsee
  clear hb hsee hc
  go_wp2_with fail
  go_loop [4, 5, 6] (fun vi _ _ => ∃ i : Nat, i ≤ N.length ∧ vi = .int .i64 i ∧ (N.take i).all okName = true) (fun vi _ _ => N.length - (intOf vi).toNat)
  case atStart => exact ⟨0, by omega, rfl, rfl⟩
  case round =>
    obtain ⟨i, hi, rfl, hall⟩ := hrel
    have HALL := Lib.hid hall
    clear hall
    by_cases hlt : i < N.length
    · obtain ⟨ad, rfl, hap, hcell⟩ := HS.out.get (by rw [List.length_map]; omega)
      obtain ⟨x, hx⟩ : ∃ x : ByteArray, x = ⟨N[i].toArray⟩ := ⟨_, rfl⟩
      have hxb : x.data.toList = N[i] := by rw [hx]
      have c1 : w2.cell? (ad.add i) = some (.string x) := hcell i (.string x) (by rw [List.getElem?_map, List.getElem?_eq_getElem hlt, hx]; rfl)
      have hnx : x.size ≤ 1048576 := by have := hns N[i] (List.getElem_mem hlt); rw [← hxb] at this; exact this
      have htk : (N.take (i + 1)).all okName = okName x.data.toList := by
        rw [List.take_add_one, List.getElem?_eq_getElem hlt, List.all_append, HALL.out, hxb]; simp
      have HTK := Lib.hid htk
      have hfail : okName x.data.toList = false → r = false := fun h => by
        rw [← HR.out]
        have : N.all okName = false := by
          rw [← List.take_append_drop (i + 1) N, List.all_append, htk, h]; rfl
        rw [this, Bool.and_false]
      have HF := Lib.hid hfail
      have hxl : x.data.toList.length = x.size := rfl
      have hkl : (i : Int) < (N.length : Int) := by omega
      have hlx : x.toList = x.data.toList := Lib.toList_data x
      clear hcell hap hx hxb htk hfail hlt
      by_cases h1 : x.size < 1
      · have hr := HF.out (okName_no (.inl (by omega)))
        subst hr
        have k1 : (x.size : Int) < 1 := by omega
        go_wp2_with fail
        go_ret
        exact ⟨rfl, HB.out⟩
      by_cases h2 : 16 < x.size
      · have hr := HF.out (okName_no (.inr (.inl (by omega))))
        subst hr
        have k1 : ¬ (x.size : Int) < 1 := by omega
        have k2 : (16 : Int) < (x.size : Int) := by omega
        go_wp2_with fail
        go_ret
        exact ⟨rfl, HB.out⟩
      have k1 : ¬ (x.size : Int) < 1 := by omega
      have k2 : ¬ (16 : Int) < (x.size : Int) := by omega
      by_cases h3 : x.data.toList = [46]
      · have hr := HF.out (okName_no (.inr (.inr (.inl h3))))
        subst hr
        have k3 : (x.data.toList == [46]) = true := by rw [beq_iff_eq]; exact h3
        clear h3 h1 h2
        go_wp2_with fail
        go_ret
        exact ⟨rfl, HB.out⟩
      by_cases h4 : x.data.toList = [46, 46]
      · have hr := HF.out (okName_no (.inr (.inr (.inr h4))))
        subst hr
        have k3 : (x.data.toList == [46]) = false := by rw [beq_eq_false_iff_ne]; exact h3
        have k4 : (x.data.toList == [46, 46]) = true := by rw [beq_iff_eq]; exact h4
        clear h3 h4 h1 h2
        go_wp2_with fail
        go_ret
        exact ⟨rfl, HB.out⟩
      have k3 : (x.data.toList == [46]) = false := by rw [beq_eq_false_iff_ne]; exact h3
      have k4 : (x.data.toList == [46, 46]) = false := by rw [beq_eq_false_iff_ne]; exact h4
      have hok := okName_all (n := x.data.toList) (by omega) (by omega) h3 h4
      rw [hok] at HTK HF
      clear h3 h4 h1 h2 hok
      go_wp2_with fail
      go_loop [5, 6] (fun vk _ => ∃ k : Nat, k ≤ x.size ∧ vk = .int .i64 k ∧ (x.data.toList.take k).all okByte = true) (fun vk _ => x.size - (intOf vk).toNat)
      case atStart => exact ⟨0, by omega, rfl, rfl⟩
      case round =>
        obtain ⟨k, hk, rfl, hak⟩ := hrel
        by_cases hkx : k < x.size
        · have hat := all_take_succ (byte_at x k hkx)
          rw [hak, Bool.true_and] at hat
          have HAT := Lib.hid hat
          have hks : (k : Int) < (x.size : Int) := by omega
          clear hat hak
          rcases okByte_cases (x[k]'hkx) _ rfl with ⟨ho, hc⟩ | ⟨ho, h46, h45, h95, hc⟩
          · have HOK := Lib.hid ho
            clear ho
            rcases hc with ⟨g1, g2⟩ | ⟨g1, g2, g3⟩ | g1 | g1 | g1
            · go_wp2_with fail
              go_round
              case rel => exact ⟨k + 1, by omega, by go_num, by rw [HAT.out, HOK.out]⟩
              case measure => simp [intOf]; omega
            · go_wp2_with fail
              go_round
              case rel => exact ⟨k + 1, by omega, by go_num, by rw [HAT.out, HOK.out]⟩
              case measure => simp [intOf]; omega
            · go_wp2_with fail
              go_round
              case rel => exact ⟨k + 1, by omega, by go_num, by rw [HAT.out, HOK.out]⟩
              case measure => simp [intOf]; omega
            · go_wp2_with fail
              go_round
              case rel => exact ⟨k + 1, by omega, by go_num, by rw [HAT.out, HOK.out]⟩
              case measure => simp [intOf]; omega
            · go_wp2_with fail
              go_round
              case rel => exact ⟨k + 1, by omega, by go_num, by rw [HAT.out, HOK.out]⟩
              case measure => simp [intOf]; omega
          · have hrf := HF.out (by rw [← List.take_append_drop (k + 1) x.data.toList, List.all_append, HAT.out, ho]; rfl)
            subst hrf
            have n46 : (((x[k]'hkx).toNat : Int) != 46) = true := by simp [h46]
            have n45 : (((x[k]'hkx).toNat : Int) != 45) = true := by simp [h45]
            have n95 : (((x[k]'hkx).toNat : Int) != 95) = true := by simp [h95]
            clear ho
            rcases hc with ⟨g1, g2⟩ | ⟨g1, g2, g3⟩ | ⟨g1, g2, g3, g4⟩
            · go_wp2_with fail
              go_ret
              exact ⟨rfl, HB.out⟩
            · go_wp2_with fail
              go_ret
              exact ⟨rfl, HB.out⟩
            · go_wp2_with fail
              go_ret
              exact ⟨rfl, HB.out⟩
        · have hke : k = x.size := by omega
          subst hke
          rw [List.take_of_length_le (show x.data.toList.length ≤ x.size from Nat.le_refl _)] at hak
          have HNX : Hid ((N.take (i + 1)).all okName = true) := Lib.hid (HTK.out.trans hak)
          have hks : ¬ (x.size : Int) < (x.size : Int) := by omega
          clear hak hkx
          go_wp2_with fail
          go_round
          case rel => exact ⟨i + 1, by omega, by go_num, HNX.out⟩
          case measure => simp [intOf]; omega
    · have hil : i = N.length := by omega
      subst hil
      have hN := HALL.out
      rw [List.take_length] at hN
      have hr := HR.out
      rw [hN, Bool.and_true] at hr
      have hkl : ¬ (N.length : Int) < (N.length : Int) := by omega
      by_cases h4 : N.length ≤ 4
      · rw [decide_eq_true h4] at hr
        subst hr
        have k4 : (N.length : Int) ≤ 4 := by omega
        clear hN h4 hlt
        go_wp2_with fail
        go_ret
        exact ⟨by first | rfl | simp, HB.out⟩
      · rw [decide_eq_false h4] at hr
        subst hr
        have k4 : ¬ (N.length : Int) ≤ 4 := by omega
        clear hN h4 hlt
        go_wp2_with fail
        go_ret
        exact ⟨by first | rfl | simp, HB.out⟩
end Go.Proofs.YtefamkckoikeoaaDoor
/- A region that draws its order, walked step by step under a condition S on the memory: an operation that yields the same in every world that meets S may be taken first; else whichever may come up is carried out, and S shown anew. No condition. -/
namespace Go.Proofs.YtefamkckoikeoaaDoor
section
variable {P : Program} {lo : List Oper} {Q : Exit → Act → World → Prop} {S : World → Prop}
theorem held_start {id : Nat} {a : Act} {w : World} (S : World → Prop) (hm : P.follows .mixedOrders = true) (hS : S w.drew)
    (h : wpAnyH P .any lo.toArray (NoPanic Q) S lo.toArray.size (Array.replicate lo.toArray.size false) a w.drew) : (Code.region id lo.toArray true).wp P Q a w :=
  wp_region_noPanic (wp_region_held_drew hm hS fun _ => h)
theorem held_take (i : Nat) {fuel : Nat} {listed : Array Bool} {a : Act} {w : World} {o : Oper} {v : Value} (ho : lo[i]? = some o)
    (hc : (Region.noSelect lo.toArray && (Region.free .any lo.toArray listed i && (Region.ready .any lo.toArray listed).contains i)) = true) (hw : Region.wanted o (yielded lo.toArray a.tmps) = true) (hS : S w)
    (hy : ∀ w', S w' → (execOp a.eval o).run P w' = .ok (.value v) w')
    (h : wpAnyH P .any lo.toArray (NoPanic Q) S fuel (listed.setIfInBounds i true) (a.put o.dst v) w) : wpAnyH P .any lo.toArray (NoPanic Q) S (fuel + 1) listed a w := by
  simp only [Bool.and_eq_true] at hc
  exact wpAnyH_take (i := i) (oi := o) (v := v) (by simpa using ho) hc.1 hc.2.1 hc.2.2 (fun _ _ _ h => h) (.inl ⟨hw, hy⟩) hS h
theorem held_step {i : Nat} {fuel : Nat} {listed : Array Bool} {a : Act} {w : World} {o : Oper} (ho : lo[i]? = some o) (hw : Region.wanted o (yielded lo.toArray a.tmps) = true)
    (h : ∀ K : Act → World → Prop, (∀ a w, (S w ∧ wpAnyH P .any lo.toArray (NoPanic Q) S fuel (listed.setIfInBounds i true) a w) → K a w) → o.wp P a w K (NoPanic Q)) :
    wpOp P lo.toArray (NoPanic Q) i (fun a' w' => S w' ∧ wpAnyH P .any lo.toArray (NoPanic Q) S fuel (listed.setIfInBounds i true) a' w') a w := by
  have hx := h _ (fun _ _ h => h)
  unfold wpOp
  rw [show lo.toArray[i]? = some o by simpa using ho]
  show if _ then _ else _
  rw [if_pos hw]
  exact .inl hx
theorem held_one (i : Nat) {fuel : Nat} {listed : Array Bool} {a : Act} {w : World} {o : Oper} (ho : lo[i]? = some o) (hr : Region.ready .any lo.toArray listed = [i]) (hw : Region.wanted o (yielded lo.toArray a.tmps) = true)
    (h : ∀ K : Act → World → Prop, (∀ a w, (S w ∧ wpAnyH P .any lo.toArray (NoPanic Q) S fuel (listed.setIfInBounds i true) a w) → K a w) → o.wp P a w K (NoPanic Q)) :
    wpAnyH P .any lo.toArray (NoPanic Q) S (fuel + 1) listed a w := by
  refine wpAnyH_all hr (by simp) (fun j hj => ?_)
  have hj : j = i := by simpa using hj
  subst hj
  exact held_step ho hw h
theorem held_two (i j : Nat) {fuel : Nat} {listed : Array Bool} {a : Act} {w : World} {o o' : Oper} (ho : lo[i]? = some o) (ho' : lo[j]? = some o') (hr : Region.ready .any lo.toArray listed = [i, j])
    (hw : Region.wanted o (yielded lo.toArray a.tmps) = true) (hw' : Region.wanted o' (yielded lo.toArray a.tmps) = true)
    (h : ∀ K : Act → World → Prop, (∀ a w, (S w ∧ wpAnyH P .any lo.toArray (NoPanic Q) S fuel (listed.setIfInBounds i true) a w) → K a w) → o.wp P a w K (NoPanic Q))
    (h' : ∀ K : Act → World → Prop, (∀ a w, (S w ∧ wpAnyH P .any lo.toArray (NoPanic Q) S fuel (listed.setIfInBounds j true) a w) → K a w) → o'.wp P a w K (NoPanic Q)) :
    wpAnyH P .any lo.toArray (NoPanic Q) S (fuel + 1) listed a w := by
  refine wpAnyH_all hr (by simp) (fun k hk => ?_)
  simp only [List.mem_cons, List.mem_nil_iff, or_false] at hk
  rcases hk with rfl | rfl
  · exact held_step ho hw h
  · exact held_step ho' hw' h'
theorem held_three (i j k : Nat) {fuel : Nat} {listed : Array Bool} {a : Act} {w : World} {o o' o'' : Oper} (ho : lo[i]? = some o) (ho' : lo[j]? = some o') (ho'' : lo[k]? = some o'') (hr : Region.ready .any lo.toArray listed = [i, j, k])
    (hw : Region.wanted o (yielded lo.toArray a.tmps) = true) (hw' : Region.wanted o' (yielded lo.toArray a.tmps) = true) (hw'' : Region.wanted o'' (yielded lo.toArray a.tmps) = true)
    (h : ∀ K : Act → World → Prop, (∀ a w, (S w ∧ wpAnyH P .any lo.toArray (NoPanic Q) S fuel (listed.setIfInBounds i true) a w) → K a w) → o.wp P a w K (NoPanic Q))
    (h' : ∀ K : Act → World → Prop, (∀ a w, (S w ∧ wpAnyH P .any lo.toArray (NoPanic Q) S fuel (listed.setIfInBounds j true) a w) → K a w) → o'.wp P a w K (NoPanic Q))
    (h'' : ∀ K : Act → World → Prop, (∀ a w, (S w ∧ wpAnyH P .any lo.toArray (NoPanic Q) S fuel (listed.setIfInBounds k true) a w) → K a w) → o''.wp P a w K (NoPanic Q)) :
    wpAnyH P .any lo.toArray (NoPanic Q) S (fuel + 1) listed a w := by
  refine wpAnyH_all hr (by simp) (fun l hl => ?_)
  simp only [List.mem_cons, List.mem_nil_iff, or_false] at hl
  rcases hl with rfl | rfl | rfl
  · exact held_step ho hw h
  · exact held_step ho' hw' h'
  · exact held_step ho'' hw'' h''
theorem held_done {fuel : Nat} {listed : Array Bool} {a : Act} {w : World} (hr : Region.ready .any lo.toArray listed = []) (h : Q .normal a w) : wpAnyH P .any lo.toArray (NoPanic Q) S fuel listed a w :=
  wpAnyH_done hr (show NoPanic Q .normal a w from h) fuel
end
end Go.Proofs.YtefamkckoikeoaaDoor
/- A region that draws its order, walked in one named order under a condition S on the memory: an operation that yields the same in every world that meets S may be taken first, another one where it alone may come up; a guarded one that is not wanted is passed over. No condition. -/
namespace Go.Proofs.YtefamkckoikeoaaDoor
section
variable {P : Program} {ops : Array Oper} {S : World → Prop} {Q : Exit → Act → World → Prop}
def wpOrs (P : Program) (ops : Array Oper) (S : World → Prop) (Q : Exit → Act → World → Prop) : List (Nat × Bool) → Act → World → Prop
  | [], a, w => Q .normal a w
  | (i, true) :: r, a, w => ∃ o v, ops[i]? = some o ∧ YieldsIf P ops S o v a ∧ wpOrs P ops S Q r (a.put o.dst v) w
  | (i, false) :: r, a, w => wpOp P ops Q i (fun a' w' => S w' ∧ wpOrs P ops S Q r a' w') a w
def orsB (md : Region.Mode) (ops : Array Oper) : List (Nat × Bool) → Array Bool → Bool
  | [], listed => (Region.ready md ops listed).isEmpty
  | (i, true) :: r, listed => Region.free md ops listed i && ((Region.ready md ops listed).contains i && orsB md ops r (listed.setIfInBounds i true))
  | (i, false) :: r, listed => decide (Region.ready md ops listed = [i]) && orsB md ops r (listed.setIfInBounds i true)
theorem wpAnyH_of_ors {md : Region.Mode} (hs : Region.noSelect ops = true) (hQ : ∀ c a d v w, Q (.panic c) (a.put d v) w → Q (.panic c) a w) :
    ∀ (l : List (Nat × Bool)) (fuel : Nat) (listed : Array Bool) (a : Act) (w : World), l.length ≤ fuel → orsB md ops l listed = true → S w → wpOrs P ops S Q l a w →
      wpAnyH P md ops Q S fuel listed a w
  | [], fuel, listed, a, w, _, hB, _, h => wpAnyH_done (by simpa [orsB] using hB) h fuel
  | (i, b) :: r, 0, _, _, _, hl, _, _, _ => absurd hl (by simp)
  | (i, true) :: r, fuel + 1, listed, a, w, hl, hB, hS, h => by
    obtain ⟨o, v, ho, hy, hr⟩ := h
    simp only [orsB, Bool.and_eq_true] at hB
    exact wpAnyH_take ho hs hB.1 hB.2.1 (fun c a w => hQ c a _ v w) hy hS (wpAnyH_of_ors hs hQ r fuel _ _ _ (by simpa using hl) hB.2.2 hS hr)
  | (i, false) :: r, fuel + 1, listed, a, w, hl, hB, hS, h => by
    simp only [orsB, Bool.and_eq_true, decide_eq_true_eq] at hB
    refine wpAnyH_all hB.1 (by simp) (fun j hj => ?_)
    have hj : j = i := by simpa using hj
    subst hj
    exact wpOp_mono (fun a' w' h' => ⟨h'.1, wpAnyH_of_ors hs hQ r fuel _ _ _ (by simpa using hl) hB.2 h'.1 h'.2⟩) h
def wpOrsL (P : Program) (ops : Array Oper) (S : World → Prop) (Q : Exit → Act → World → Prop) : List (Oper × Bool) → Act → World → Prop
  | [], a, w => Q .normal a w
  | (o, true) :: r, a, w => ∃ v, YieldsIf P ops S o v a ∧ wpOrsL P ops S Q r (a.put o.dst v) w
  | (o, false) :: r, a, w => if Region.wanted o (yielded ops a.tmps) then o.wp P a w (fun a' w' => S w' ∧ wpOrsL P ops S Q r a' w') Q ∨ (o.asks P a w ∧ LetsOut Q) else (S w ∧ wpOrsL P ops S Q r (a.put o.dst undef) w)
def pickOrs (l : List Oper) : List (Nat × Bool) → List (Oper × Bool)
  | [] => []
  | (i, b) :: r => match l[i]? with
    | some o => (o, b) :: pickOrs l r
    | none => pickOrs l r
theorem wpOrs_of_L (ops : Array Oper) : ∀ (l : List (Nat × Bool)) (a : Act) (w : World), (l.all fun x => decide (x.1 < ops.size)) = true →
    wpOrsL P ops S Q (pickOrs ops.toList l) a w → wpOrs P ops S Q l a w
  | [], _, _, _, h => h
  | (i, b) :: r, a, w, hl, h => by
    simp only [List.all_cons, Bool.and_eq_true, decide_eq_true_eq] at hl
    have ho : ops.toList[i]? = some ops[i] := by simp [hl.1]
    have ho' : ops[i]? = some ops[i] := by simp [hl.1]
    rw [pickOrs, ho] at h
    cases b with
    | true =>
      obtain ⟨v, hy, hr⟩ := h
      exact ⟨_, v, ho', hy, wpOrs_of_L ops r _ _ hl.2 hr⟩
    | false =>
      show wpOp P ops Q i (fun a' w' => S w' ∧ wpOrs P ops S Q r a' w') a w
      have h2 : wpOp P ops Q i (fun a' w' => S w' ∧ wpOrsL P ops S Q (pickOrs ops.toList r) a' w') a w := by unfold wpOp; rw [ho']; exact h
      exact wpOp_mono (fun a' w' h' => ⟨h'.1, wpOrs_of_L ops r _ _ hl.2 h'.2⟩) h2
theorem ors_pure {o : Oper} {r : List (Oper × Bool)} {a : Act} {w : World} {v : Value} (hw : Region.wanted o (yielded ops a.tmps) = true)
    (hy : ∀ w', S w' → (execOp a.eval o).run P w' = .ok (.value v) w') (h : wpOrsL P ops S Q r (a.put o.dst v) w) : wpOrsL P ops S Q ((o, true) :: r) a w :=
  ⟨v, .inl ⟨hw, hy⟩, h⟩
theorem ors_skip {o : Oper} {r : List (Oper × Bool)} {a : Act} {w : World} (hw : Region.wanted o (yielded ops a.tmps) = false)
    (h : wpOrsL P ops S Q r (a.put o.dst undef) w) : wpOrsL P ops S Q ((o, true) :: r) a w :=
  ⟨undef, .inr ⟨hw, rfl⟩, h⟩
theorem ors_step {o : Oper} {r : List (Oper × Bool)} {a : Act} {w : World} (hw : Region.wanted o (yielded ops a.tmps) = true)
    (h : ∀ K : Act → World → Prop, (∀ a w, S w ∧ wpOrsL P ops S Q r a w → K a w) → o.wp P a w K Q) : wpOrsL P ops S Q ((o, false) :: r) a w := by
  have := h _ (fun _ _ h => h)
  show if _ then _ else _
  rw [if_pos hw]
  exact .inl this
theorem ors_pass {o : Oper} {r : List (Oper × Bool)} {a : Act} {w : World} (hw : Region.wanted o (yielded ops a.tmps) = false) (hS : S w)
    (h : wpOrsL P ops S Q r (a.put o.dst undef) w) : wpOrsL P ops S Q ((o, false) :: r) a w := by
  show if _ then _ else _
  rw [if_neg (by rw [hw]; simp)]
  exact ⟨hS, h⟩
/-- The region is shown not to panic. -/
theorem wp_region_ors (S : World → Prop) {id : Nat} {a : Act} {w : World} {lo : List Oper} (l : List (Nat × Bool)) (hm : P.follows .mixedOrders = true) (hs : Region.noSelect lo.toArray = true)
    (hB : (decide (l.length ≤ lo.toArray.size) && (orsB .any lo.toArray l (Array.replicate lo.toArray.size false) && l.all fun x => decide (x.1 < lo.toArray.size))) = true)
    (hS : S w.drew) (h : wpOrsL P lo.toArray S (NoPanic Q) (pickOrs lo l) a w.drew) : (Code.region id lo.toArray true).wp P Q a w := by
  simp only [Bool.and_eq_true, decide_eq_true_eq] at hB
  exact wp_region_noPanic (wp_region_held_drew hm hS fun hS => wpAnyH_of_ors hs (fun _ _ _ _ _ h => h) l _ _ _ _ hB.1 hB.2.1 hS (wpOrs_of_L _ _ _ _ hB.2.2 h))
theorem ors_nil {a : Act} {w : World} (h : Q .normal a w) : wpOrsL P ops S (NoPanic Q) [] a w := h
end
end Go.Proofs.YtefamkckoikeoaaDoor
/- A region that draws its order, walked in one named order; the condition on the memory follows the world: behind each operation it is 'new memory beside what the world now holds', so that what a call has made may be read by an operation that is taken first. No condition. -/
namespace Go.Proofs.YtefamkckoikeoaaDoor
open Go.RowKit
/-- The world has grown. -/
def Ext (w w' : World) : Prop := Below w.heap.size w w'
theorem Ext.refl (w : World) : Ext w w := Below.refl _ _
theorem Ext.trans {a b c : World} (h : Ext a b) (h' : Ext b c) : Ext a c := Below.trans h (Below.mono h' (Below.size h))
section
variable {P : Program} {md : Region.Mode} {ops : Array Oper} {Q : Exit → Act → World → Prop}
theorem wpAnyH_mono {S S' : World → Prop} (hS : ∀ w, S' w → S w) : ∀ (fuel : Nat) (listed : Array Bool) (a : Act) (w : World), wpAnyH P md ops Q S' fuel listed a w → wpAnyH P md ops Q S fuel listed a w
  | 0, _, _, _, h => h
  | fuel + 1, _, _, _, h => ⟨h.1, fun i hi => wpOp_mono (fun a' w' h' => ⟨hS _ h'.1, wpAnyH_mono hS fuel _ a' w' h'.2⟩) (h.2 i hi)⟩
def wpOrg (P : Program) (ops : Array Oper) (Q : Exit → Act → World → Prop) : List (Nat × Bool) → Act → World → Prop
  | [], a, w => Q .normal a w
  | (i, true) :: r, a, w => ∃ o v, ops[i]? = some o ∧ YieldsIf P ops (Ext w) o v a ∧ wpOrg P ops Q r (a.put o.dst v) w
  | (i, false) :: r, a, w => wpOp P ops Q i (fun a' w' => Ext w w' ∧ wpOrg P ops Q r a' w') a w
theorem wpAnyH_of_org (hs : Region.noSelect ops = true) (hQ : ∀ c a d v w, Q (.panic c) (a.put d v) w → Q (.panic c) a w) :
    ∀ (l : List (Nat × Bool)) (fuel : Nat) (listed : Array Bool) (a : Act) (w : World), l.length ≤ fuel → orsB md ops l listed = true → wpOrg P ops Q l a w →
      wpAnyH P md ops Q (Ext w) fuel listed a w
  | [], fuel, listed, a, w, _, hB, h => wpAnyH_done (by simpa [orsB] using hB) h fuel
  | (i, b) :: r, 0, _, _, _, hl, _, _ => absurd hl (by simp)
  | (i, true) :: r, fuel + 1, listed, a, w, hl, hB, h => by
    obtain ⟨o, v, ho, hy, hr⟩ := h
    simp only [orsB, Bool.and_eq_true] at hB
    exact wpAnyH_take ho hs hB.1 hB.2.1 (fun c a w => hQ c a _ v w) hy (Ext.refl w) (wpAnyH_of_org hs hQ r fuel _ _ _ (by simpa using hl) hB.2.2 hr)
  | (i, false) :: r, fuel + 1, listed, a, w, hl, hB, h => by
    simp only [orsB, Bool.and_eq_true, decide_eq_true_eq] at hB
    refine wpAnyH_all hB.1 (by simp) (fun j hj => ?_)
    have hj : j = i := by simpa using hj
    subst hj
    exact wpOp_mono (fun a' w' h' => ⟨h'.1, wpAnyH_mono (fun x hx => Ext.trans h'.1 hx) _ _ _ _ (wpAnyH_of_org hs hQ r fuel _ _ _ (by simpa using hl) hB.2 h'.2)⟩) h
/-- The same with the operations themselves in their places. -/
def wpOrgL (P : Program) (ops : Array Oper) (Q : Exit → Act → World → Prop) : List (Oper × Bool) → Act → World → Prop
  | [], a, w => Q .normal a w
  | (o, true) :: r, a, w => ∃ v, YieldsIf P ops (Ext w) o v a ∧ wpOrgL P ops Q r (a.put o.dst v) w
  | (o, false) :: r, a, w => if Region.wanted o (yielded ops a.tmps) then o.wp P a w (fun a' w' => Ext w w' ∧ wpOrgL P ops Q r a' w') Q ∨ (o.asks P a w ∧ LetsOut Q) else wpOrgL P ops Q r (a.put o.dst undef) w
theorem wpOrg_of_L (ops : Array Oper) : ∀ (l : List (Nat × Bool)) (a : Act) (w : World), (l.all fun x => decide (x.1 < ops.size)) = true →
    wpOrgL P ops Q (pickOrs ops.toList l) a w → wpOrg P ops Q l a w
  | [], _, _, _, h => h
  | (i, b) :: r, a, w, hl, h => by
    simp only [List.all_cons, Bool.and_eq_true, decide_eq_true_eq] at hl
    have ho : ops.toList[i]? = some ops[i] := by simp [hl.1]
    have ho' : ops[i]? = some ops[i] := by simp [hl.1]
    rw [pickOrs, ho] at h
    cases b with
    | true =>
      obtain ⟨v, hy, hr⟩ := h
      exact ⟨_, v, ho', hy, wpOrg_of_L ops r _ _ hl.2 hr⟩
    | false =>
      show wpOp P ops Q i (fun a' w' => Ext w w' ∧ wpOrg P ops Q r a' w') a w
      have h2 : wpOp P ops Q i (fun a' w' => Ext w w' ∧ wpOrgL P ops Q (pickOrs ops.toList r) a' w') a w := by
        unfold wpOp
        rw [ho']
        show if _ then _ else _
        have h1 : (if Region.wanted ops[i] (yielded ops a.tmps) then (ops[i]).wp P a w (fun a' w' => Ext w w' ∧ wpOrgL P ops Q (pickOrs ops.toList r) a' w') Q ∨ ((ops[i]).asks P a w ∧ LetsOut Q) else wpOrgL P ops Q (pickOrs ops.toList r) (a.put (ops[i]).dst undef) w) := h
        split
        · rename_i hw; rw [if_pos hw] at h1; exact h1
        · rename_i hw; rw [if_neg hw] at h1; exact ⟨Ext.refl w, h1⟩
      exact wpOp_mono (fun a' w' h' => ⟨h'.1, wpOrg_of_L ops r _ _ hl.2 h'.2⟩) h2
theorem org_pure {o : Oper} {r : List (Oper × Bool)} {a : Act} {w : World} {v : Value} (hw : Region.wanted o (yielded ops a.tmps) = true)
    (hy : ∀ w', Ext w w' → (execOp a.eval o).run P w' = .ok (.value v) w') (h : wpOrgL P ops Q r (a.put o.dst v) w) : wpOrgL P ops Q ((o, true) :: r) a w :=
  ⟨v, .inl ⟨hw, hy⟩, h⟩
theorem org_skip {o : Oper} {r : List (Oper × Bool)} {a : Act} {w : World} (hw : Region.wanted o (yielded ops a.tmps) = false)
    (h : wpOrgL P ops Q r (a.put o.dst undef) w) : wpOrgL P ops Q ((o, true) :: r) a w :=
  ⟨undef, .inr ⟨hw, rfl⟩, h⟩
theorem org_step {o : Oper} {r : List (Oper × Bool)} {a : Act} {w : World} (hw : Region.wanted o (yielded ops a.tmps) = true)
    (h : ∀ K : Act → World → Prop, (∀ a w', Ext w w' ∧ wpOrgL P ops Q r a w' → K a w') → o.wp P a w K Q) : wpOrgL P ops Q ((o, false) :: r) a w := by
  have := h _ (fun _ _ h => h)
  show if _ then _ else _
  rw [if_pos hw]
  exact .inl this
theorem org_pass {o : Oper} {r : List (Oper × Bool)} {a : Act} {w : World} (hw : Region.wanted o (yielded ops a.tmps) = false)
    (h : wpOrgL P ops Q r (a.put o.dst undef) w) : wpOrgL P ops Q ((o, false) :: r) a w := by
  show if _ then _ else _
  rw [if_neg (by rw [hw]; simp)]
  exact h
/-- The region is shown not to panic. -/
theorem wp_region_org {id : Nat} {a : Act} {w : World} {lo : List Oper} (l : List (Nat × Bool)) (hm : P.follows .mixedOrders = true) (hs : Region.noSelect lo.toArray = true)
    (hB : (decide (l.length ≤ lo.toArray.size) && (orsB .any lo.toArray l (Array.replicate lo.toArray.size false) && l.all fun x => decide (x.1 < lo.toArray.size))) = true)
    (h : wpOrgL P lo.toArray (NoPanic Q) (pickOrs lo l) a w.drew) : (Code.region id lo.toArray true).wp P Q a w := by
  simp only [Bool.and_eq_true, decide_eq_true_eq] at hB
  exact wp_region_noPanic (wp_region_held_drew (S := Ext w.drew) hm (Ext.refl _) fun _ => wpAnyH_of_org hs (fun _ _ _ _ _ h => h) l _ _ _ _ hB.1 hB.2.1 (wpOrg_of_L _ _ _ _ hB.2.2 h))
theorem org_nil {a : Act} {w : World} (h : Q .normal a w) : wpOrgL P ops (NoPanic Q) [] a w := h
end
/-- The drawn regions of a body, by number. -/
def regs : Code → List (Nat × Array Oper)
  | .region id ops _ => [(id, ops)]
  | .seq a b => regs a ++ regs b
  | .block _ a => regs a
  | .loop a => regs a
  | .cond _ a b => regs a ++ regs b
  | _ => []
def regOf (c : Option Code) (id : Nat) : Array Oper :=
  match c with
  | some c => match (regs c).find? fun x => x.1 == id with
    | some x => x.2
    | none => #[]
  | none => #[]
/-- The check of an order, for a theorem of its own. -/
def orgB (l : List (Nat × Bool)) (q : Array Oper) : Bool :=
  decide (l.length ≤ q.size) && (orsB .any q l (Array.replicate q.size false) && l.all fun x => decide (x.1 < q.size))
theorem wp_region_orgc {P : Program} {Q : Exit → Act → World → Prop} {id : Nat} {a : Act} {w : World} {lo : List Oper} (l : List (Nat × Bool)) (q : Array Oper) (hq : orgB l q = true) (he : lo.toArray = q) (hm : P.follows .mixedOrders = true) (hs : Region.noSelect lo.toArray = true)
    (h : wpOrgL P lo.toArray (NoPanic Q) (pickOrs lo l) a w.drew) : (Code.region id lo.toArray true).wp P Q a w :=
  wp_region_org l hm hs (by rw [he]; exact hq) h
end Go.Proofs.YtefamkckoikeoaaDoor
/- Contract: the document's own Cmp. Condition: texts of at most 2^20 bytes. -/
namespace Go.Proofs.YtefamkckoikeoaaDoor
open Go.RowKit
set_option maxHeartbeats 8000000 in
set_option maxRecDepth 100000 in
theorem rcmp_any (a b : ByteArray) (ha : a.size ≤ 1048576) (hb : b.size ≤ 1048576) (w : World) :
    Calls Tryd.prog 84 #[.string a, .string b] w fun e w' => e = .returned (.int .i64 (cmpL a.data.toList b.data.toList)) ∧ Below w.heap.size w w' := by
  have HNA := Lib.hid (fun w1 => names_any a ha w1)
  have HNB := Lib.hid (fun w1 => names_any b hb w1)
  have hcx : (nms a.data.toList).length ≤ 1048577 := by rw [nms_count]; have : a.data.toList.count 47 ≤ a.data.toList.length := List.count_le_length; have : a.data.toList.length = a.size := rfl; omega
  have hcy : (nms b.data.toList).length ≤ 1048577 := by rw [nms_count]; have : b.data.toList.count 47 ≤ b.data.toList.length := List.count_le_length; have : b.data.toList.length = b.size := rfl; omega
  obtain ⟨V, hV⟩ : ∃ V, ncmp (nms a.data.toList) (nms b.data.toList) = V := ⟨_, rfl⟩
  rw [← ncmp_nms, hV]
  generalize nms a.data.toList = X at *
  generalize nms b.data.toList = Y at *
  have HV := Lib.hid hV
  clear hV
  go_enter Tryd.func84, Tryd.ntmps84
  go_wp2_with fail
  refine (HNA.out _).mono ?_
  rintro e w1 ⟨⟨v, rfl, q, c, rfl, hc, hx⟩, hb1⟩
  have HB1 := Lib.hid hb1
  have HX1 := Lib.hid hx
  clear hb1 hx hc
  go_wp2_with fail
  refine (HNB.out _).mono ?_
  rintro e w2 ⟨⟨v, rfl, q2, c2, rfl, hc2, hy⟩, hb2⟩
  have HX2 := Lib.hid ((HX1.out.keep hb2).more hb2.size)
  have HY2 := Lib.hid hy
  have HB2 := Lib.hid (HB1.out.trans (hb2.mono HB1.out.size))
  clear hb2 hy hc2 HX1 HB1
  go_wp2_with fail
  go_loopw [7] (fun vi wr => ∃ i : Nat, i ≤ X.length ∧ i ≤ Y.length ∧ vi = .int .i64 i ∧ ncmp (X.drop i) (Y.drop i) = V ∧ Below w2.heap.size w2 wr) (fun vi _ => X.length - (intOf vi).toNat)
  case atStart => exact ⟨0, by omega, by omega, rfl, HV.out, Below.refl _ _⟩
  case round =>
    rename_i wr
    obtain ⟨i, hi, hi2, rfl, hv, hb⟩ := hrel
    have HB := Lib.hid hb
    clear hb
    by_cases h1 : i < X.length
    · by_cases h2 : i < Y.length
      · obtain ⟨ax, rfl, hax, hcx2⟩ := HX2.out.get (by rw [List.length_map]; omega)
        obtain ⟨ay, rfl, hay, hcy2⟩ := HY2.out.get (by rw [List.length_map]; omega)
        obtain ⟨x, hxe⟩ : ∃ x : ByteArray, x = ⟨X[i].toArray⟩ := ⟨_, rfl⟩
        obtain ⟨y, hye⟩ : ∃ y : ByteArray, y = ⟨Y[i].toArray⟩ := ⟨_, rfl⟩
        have HCX : Hid (∀ w', Below w2.heap.size w2 w' → w'.cell? (ax.add i) = some (.string x)) := Lib.hid (fun w' hb => (hb.cell (by rw [add_block]; exact hax)).trans (hcx2 i (.string x) (by rw [List.getElem?_map, List.getElem?_eq_getElem h1, hxe]; rfl)))
        have HCY : Hid (∀ w', Below w2.heap.size w2 w' → w'.cell? (ay.add i) = some (.string y)) := Lib.hid (fun w' hb => (hb.cell (by rw [add_block]; exact hay)).trans (hcy2 i (.string y) (by rw [List.getElem?_map, List.getElem?_eq_getElem h2, hye]; rfl)))
        rw [List.drop_eq_getElem_cons h1, List.drop_eq_getElem_cons h2, ncmp] at hv
        have e1 : X[i] = x.data.toList := by rw [hxe]
        have e2 : Y[i] = y.data.toList := by rw [hye]
        rw [e1, e2] at hv
        have HVV := Lib.hid hv
        have hlx : x.toList = x.data.toList := Lib.toList_data x
        have hly : y.toList = y.data.toList := Lib.toList_data y
        have kx : (i : Int) < (X.length : Int) := by omega
        have ky : (i : Int) < (Y.length : Int) := by omega
        clear hcx2 hcy2 hax hay hxe hye e1 e2 hv
        go_wp2_with fail
        refine wp_region_org ((List.range 9).map (·, true)) (by kernel_rfl) (by kernel_rfl) (by kernel_rfl) ?_
        replace HB := Lib.hid HB.out.drew
        generalize wr.drew = wrd at *
        simp only [List.range_succ, List.range_zero, List.nil_append, List.cons_append, List.map_cons, List.map_nil, pickOrs, List.getElem?_cons_zero, List.getElem?_cons_succ]
        refine org_pure (v := ?_) (by kernel_rfl) ?_ ?_
        rotate_left
        · intro w' hv; clear hv; go_simp; try with_reducible rfl
        try simp only [Act.put, List.setIfInBounds_toArray, List.set_cons_zero, List.set_cons_succ]
        refine org_pure (v := ?_) (by kernel_rfl) ?_ ?_
        rotate_left
        · intro w' hv; clear hv; go_simp; try with_reducible rfl
        try simp only [Act.put, List.setIfInBounds_toArray, List.set_cons_zero, List.set_cons_succ]
        refine org_pure (v := ?_) (by kernel_rfl) ?_ ?_
        rotate_left
        · intro w' hv; clear hv; go_simp; try with_reducible rfl
        try simp only [Act.put, List.setIfInBounds_toArray, List.set_cons_zero, List.set_cons_succ]
        refine org_pure (v := ?_) (by kernel_rfl) ?_ ?_
        rotate_left
        · intro w' hv; have cp := HCX.out w' (HB.out.trans (Below.mono hv HB.out.size)); clear hv; go_simp; try with_reducible rfl
        try simp only [Act.put, List.setIfInBounds_toArray, List.set_cons_zero, List.set_cons_succ]
        refine org_pure (v := ?_) (by kernel_rfl) ?_ ?_
        rotate_left
        · intro w' hv; clear hv; go_simp; try with_reducible rfl
        try simp only [Act.put, List.setIfInBounds_toArray, List.set_cons_zero, List.set_cons_succ]
        refine org_pure (v := ?_) (by kernel_rfl) ?_ ?_
        rotate_left
        · intro w' hv; clear hv; go_simp; try with_reducible rfl
        try simp only [Act.put, List.setIfInBounds_toArray, List.set_cons_zero, List.set_cons_succ]
        refine org_pure (v := ?_) (by kernel_rfl) ?_ ?_
        rotate_left
        · intro w' hv; clear hv; go_simp; try with_reducible rfl
        try simp only [Act.put, List.setIfInBounds_toArray, List.set_cons_zero, List.set_cons_succ]
        refine org_pure (v := ?_) (by kernel_rfl) ?_ ?_
        rotate_left
        · intro w' hv; have cq := HCY.out w' (HB.out.trans (Below.mono hv HB.out.size)); clear hv; go_simp; try with_reducible rfl
        try simp only [Act.put, List.setIfInBounds_toArray, List.set_cons_zero, List.set_cons_succ]
        refine org_pure (v := ?_) (by kernel_rfl) ?_ ?_
        rotate_left
        · intro w' hv; clear hv; go_simp; try with_reducible rfl
        try simp only [Act.put, List.setIfInBounds_toArray, List.set_cons_zero, List.set_cons_succ]
        refine org_nil ?_
        cases hl : Op.bytesLess x.data.toList y.data.toList with
        | true =>
          have hvv := HVV.out
          rw [hl, if_pos rfl] at hvv
          subst hvv
          clear hl
          go_wp2_with fail
          go_ret
          exact ⟨rfl, HB2.out.trans (HB.out.mono HB2.out.size)⟩
        | false =>
          have hvv := HVV.out
          rw [hl, if_neg Bool.false_ne_true, Bool.false_or] at hvv
          have hgt := gtr_text 9 x y
          rw [hlx, hly, hl, Bool.false_or] at hgt
          cases he : (x.data.toList == y.data.toList) with
          | true =>
            rw [he, if_neg (by simp)] at hvv
            rw [he, Bool.not_true] at hgt
            have HV2 := Lib.hid hvv
            clear hvv
            go_wp2_with fail
            refine wp_region_org ((List.range 9).map (·, true)) (by kernel_rfl) (by kernel_rfl) (by kernel_rfl) ?_
            replace HB := Lib.hid HB.out.drew
            generalize wrd.drew = wre at *
            simp only [List.range_succ, List.range_zero, List.nil_append, List.cons_append, List.map_cons, List.map_nil, pickOrs, List.getElem?_cons_zero, List.getElem?_cons_succ]
            refine org_pure (v := ?_) (by kernel_rfl) ?_ ?_
            rotate_left
            · intro w' hv; clear hv; go_simp; try with_reducible rfl
            try simp only [Act.put, List.setIfInBounds_toArray, List.set_cons_zero, List.set_cons_succ]
            refine org_pure (v := ?_) (by kernel_rfl) ?_ ?_
            rotate_left
            · intro w' hv; clear hv; go_simp; try with_reducible rfl
            try simp only [Act.put, List.setIfInBounds_toArray, List.set_cons_zero, List.set_cons_succ]
            refine org_pure (v := ?_) (by kernel_rfl) ?_ ?_
            rotate_left
            · intro w' hv; clear hv; go_simp; try with_reducible rfl
            try simp only [Act.put, List.setIfInBounds_toArray, List.set_cons_zero, List.set_cons_succ]
            refine org_pure (v := ?_) (by kernel_rfl) ?_ ?_
            rotate_left
            · intro w' hv; have cp := HCX.out w' (HB.out.trans (Below.mono hv HB.out.size)); clear hv; go_simp; try with_reducible rfl
            try simp only [Act.put, List.setIfInBounds_toArray, List.set_cons_zero, List.set_cons_succ]
            refine org_pure (v := ?_) (by kernel_rfl) ?_ ?_
            rotate_left
            · intro w' hv; clear hv; go_simp; try with_reducible rfl
            try simp only [Act.put, List.setIfInBounds_toArray, List.set_cons_zero, List.set_cons_succ]
            refine org_pure (v := ?_) (by kernel_rfl) ?_ ?_
            rotate_left
            · intro w' hv; clear hv; go_simp; try with_reducible rfl
            try simp only [Act.put, List.setIfInBounds_toArray, List.set_cons_zero, List.set_cons_succ]
            refine org_pure (v := ?_) (by kernel_rfl) ?_ ?_
            rotate_left
            · intro w' hv; clear hv; go_simp; try with_reducible rfl
            try simp only [Act.put, List.setIfInBounds_toArray, List.set_cons_zero, List.set_cons_succ]
            refine org_pure (v := ?_) (by kernel_rfl) ?_ ?_
            rotate_left
            · intro w' hv; have cq := HCY.out w' (HB.out.trans (Below.mono hv HB.out.size)); clear hv; go_simp; try with_reducible rfl
            try simp only [Act.put, List.setIfInBounds_toArray, List.set_cons_zero, List.set_cons_succ]
            refine org_pure (v := ?_) (by kernel_rfl) ?_ ?_
            rotate_left
            · intro w' hv; clear hv; go_simp; try with_reducible rfl
            try simp only [Act.put, List.setIfInBounds_toArray, List.set_cons_zero, List.set_cons_succ]
            refine org_nil ?_
            go_wp2_with fail
            go_roundw
            case rel => exact ⟨i + 1, by omega, by omega, by go_num, HV2.out, HB.out⟩
            case measure => simp [intOf]; omega
          | false =>
            rw [he, if_pos rfl] at hvv
            rw [he, Bool.not_false] at hgt
            subst hvv
            go_wp2_with fail
            refine wp_region_org ((List.range 9).map (·, true)) (by kernel_rfl) (by kernel_rfl) (by kernel_rfl) ?_
            replace HB := Lib.hid HB.out.drew
            generalize wrd.drew = wre at *
            simp only [List.range_succ, List.range_zero, List.nil_append, List.cons_append, List.map_cons, List.map_nil, pickOrs, List.getElem?_cons_zero, List.getElem?_cons_succ]
            refine org_pure (v := ?_) (by kernel_rfl) ?_ ?_
            rotate_left
            · intro w' hv; clear hv; go_simp; try with_reducible rfl
            try simp only [Act.put, List.setIfInBounds_toArray, List.set_cons_zero, List.set_cons_succ]
            refine org_pure (v := ?_) (by kernel_rfl) ?_ ?_
            rotate_left
            · intro w' hv; clear hv; go_simp; try with_reducible rfl
            try simp only [Act.put, List.setIfInBounds_toArray, List.set_cons_zero, List.set_cons_succ]
            refine org_pure (v := ?_) (by kernel_rfl) ?_ ?_
            rotate_left
            · intro w' hv; clear hv; go_simp; try with_reducible rfl
            try simp only [Act.put, List.setIfInBounds_toArray, List.set_cons_zero, List.set_cons_succ]
            refine org_pure (v := ?_) (by kernel_rfl) ?_ ?_
            rotate_left
            · intro w' hv; have cp := HCX.out w' (HB.out.trans (Below.mono hv HB.out.size)); clear hv; go_simp; try with_reducible rfl
            try simp only [Act.put, List.setIfInBounds_toArray, List.set_cons_zero, List.set_cons_succ]
            refine org_pure (v := ?_) (by kernel_rfl) ?_ ?_
            rotate_left
            · intro w' hv; clear hv; go_simp; try with_reducible rfl
            try simp only [Act.put, List.setIfInBounds_toArray, List.set_cons_zero, List.set_cons_succ]
            refine org_pure (v := ?_) (by kernel_rfl) ?_ ?_
            rotate_left
            · intro w' hv; clear hv; go_simp; try with_reducible rfl
            try simp only [Act.put, List.setIfInBounds_toArray, List.set_cons_zero, List.set_cons_succ]
            refine org_pure (v := ?_) (by kernel_rfl) ?_ ?_
            rotate_left
            · intro w' hv; clear hv; go_simp; try with_reducible rfl
            try simp only [Act.put, List.setIfInBounds_toArray, List.set_cons_zero, List.set_cons_succ]
            refine org_pure (v := ?_) (by kernel_rfl) ?_ ?_
            rotate_left
            · intro w' hv; have cq := HCY.out w' (HB.out.trans (Below.mono hv HB.out.size)); clear hv; go_simp; try with_reducible rfl
            try simp only [Act.put, List.setIfInBounds_toArray, List.set_cons_zero, List.set_cons_succ]
            refine org_pure (v := ?_) (by kernel_rfl) ?_ ?_
            rotate_left
            · intro w' hv; clear hv; go_simp; try with_reducible rfl
            try simp only [Act.put, List.setIfInBounds_toArray, List.set_cons_zero, List.set_cons_succ]
            refine org_nil ?_
            go_wp2_with fail
            go_ret
            exact ⟨rfl, HB2.out.trans (HB.out.mono HB2.out.size)⟩
      · have hie : i = Y.length := by omega
        subst hie
        rw [ncmp_end _ _ (.inr (List.drop_of_length_le (Nat.le_refl _))), List.length_drop, List.length_drop] at hv
        have hv1 : V = 1 := by rw [← hv]; exact cmpI_gt (by omega)
        subst hv1
        have kx : (Y.length : Int) < (X.length : Int) := by omega
        have ky : ¬ (Y.length : Int) < (Y.length : Int) := by omega
        have kz : ¬ (X.length : Int) = (Y.length : Int) := by omega
        have kz2 : ((X.length : Int) != (Y.length : Int)) = true := by simp; omega
        have kt : ¬ (X.length : Int) < (Y.length : Int) := by omega
        clear hv h2
        go_wp2_with fail
        go_ret
        exact ⟨rfl, HB2.out.trans (HB.out.mono HB2.out.size)⟩
    · have hie : i = X.length := by omega
      subst hie
      rw [ncmp_end _ _ (.inl (List.drop_of_length_le (Nat.le_refl _))), List.length_drop, List.length_drop] at hv
      have kx : ¬ (X.length : Int) < (X.length : Int) := by omega
      by_cases hxy : X.length < Y.length
      · have hv1 : V = -1 := by rw [← hv]; exact cmpI_lt (by omega)
        subst hv1
        have kz2 : ((X.length : Int) != (Y.length : Int)) = true := by simp; omega
        have kz : ¬ (X.length : Int) = (Y.length : Int) := by omega
        have kt : (X.length : Int) < (Y.length : Int) := by omega
        clear hv hxy
        go_wp2_with fail
        go_ret
        exact ⟨rfl, HB2.out.trans (HB.out.mono HB2.out.size)⟩
      · have hle : X.length = Y.length := by omega
        have hv1 : V = 0 := by rw [← hv, hle]; exact cmpI_eq _
        subst hv1
        have kz2 : ((X.length : Int) != (Y.length : Int)) = false := by simp; omega
        have kz : (X.length : Int) = (Y.length : Int) := by omega
        clear hv hxy hle
        go_wp2_with fail
        go_ret
        exact ⟨rfl, HB2.out.trans (HB.out.mono HB2.out.size)⟩
end Go.Proofs.YtefamkckoikeoaaDoor
/- Plain laws: Go's arithmetic on uint32 and uint8 is that of bit vectors. No condition. -/
namespace Go.Proofs.YtefamkckoikeoaaDoor

/-- A word, a byte as Go's integers. -/
def N (x : BitVec 32) : Int := (x.toNat : Int)
def B (x : BitVec 8) : Int := (x.toNat : Int)

theorem N_nonneg (x : BitVec 32) : 0 ≤ N x := by unfold N; omega
theorem N_lt (x : BitVec 32) : N x < 4294967296 := by unfold N; have := x.isLt; omega
theorem B_nonneg (x : BitVec 8) : 0 ≤ B x := by unfold B; omega
theorem B_lt (x : BitVec 8) : B x < 256 := by unfold B; have := x.isLt; omega
theorem N_inj {x y : BitVec 32} (h : N x = N y) : x = y := by unfold N at h; exact BitVec.eq_of_toNat_eq (by omega)
theorem B_inj {x y : BitVec 8} (h : B x = B y) : x = y := by unfold B at h; exact BitVec.eq_of_toNat_eq (by omega)
theorem B_ofNat (n : Nat) (h : n < 256) : (n : Int) = B (BitVec.ofNat 8 n) := by unfold B; simp; omega
theorem N_ofNat (n : Nat) (h : n < 4294967296) : (n : Int) = N (BitVec.ofNat 32 n) := by unfold N; simp; omega

theorem ofInt_N (x : BitVec 32) : BitVec.ofInt 32 (N x) = x := by unfold N; rw [BitVec.ofInt_natCast, BitVec.ofNat_toNat, BitVec.setWidth_eq]
theorem ofInt_B (x : BitVec 8) : BitVec.ofInt 8 (B x) = x := by unfold B; rw [BitVec.ofInt_natCast, BitVec.ofNat_toNat, BitVec.setWidth_eq]
theorem wrap_N (x : BitVec 32) : IntKind.u32.wrap (x.toNat : Int) = N x := by rw [IntKind.wrap_u32']; unfold N; have := x.isLt; omega
theorem wrap_B (x : BitVec 8) : IntKind.u8.wrap (x.toNat : Int) = B x := by rw [IntKind.wrap_u8']; unfold B; have := x.isLt; omega

theorem N_and (x y : BitVec 32) : bits .and .u32 (N x) (N y) = N (x &&& y) := by
  show IntKind.u32.wrap ((BitVec.ofInt 32 (N x) &&& BitVec.ofInt 32 (N y)).toNat : Int) = _
  rw [ofInt_N, ofInt_N, wrap_N]
theorem N_or (x y : BitVec 32) : bits .or .u32 (N x) (N y) = N (x ||| y) := by
  show IntKind.u32.wrap ((BitVec.ofInt 32 (N x) ||| BitVec.ofInt 32 (N y)).toNat : Int) = _
  rw [ofInt_N, ofInt_N, wrap_N]
theorem N_xor (x y : BitVec 32) : bits .xor .u32 (N x) (N y) = N (x ^^^ y) := by
  show IntKind.u32.wrap ((BitVec.ofInt 32 (N x) ^^^ BitVec.ofInt 32 (N y)).toNat : Int) = _
  rw [ofInt_N, ofInt_N, wrap_N]
theorem N_not (x : BitVec 32) : bits .xor .u32 4294967295 (N x) = N (~~~x) := by
  have : (4294967295 : Int) = N (BitVec.allOnes 32) := rfl
  rw [this, N_xor, BitVec.allOnes_xor]
theorem N_not' (x : BitVec 32) : bits .xor .u32 IntKind.u32.max (N x) = N (~~~x) := N_not x
theorem u32_signed : IntKind.u32.signed = false := rfl
theorem u8_signed : IntKind.u8.signed = false := rfl
theorem N_add (x y : BitVec 32) : IntKind.u32.wrap (N x + N y) = N (x + y) := by
  rw [IntKind.wrap_u32']; unfold N; rw [BitVec.toNat_add]; omega
theorem N_shl (x : BitVec 32) (k : Nat) : IntKind.u32.wrap (N x * 2 ^ k) = N (x <<< k) := by
  rw [IntKind.wrap_u32']; unfold N; rw [BitVec.toNat_shiftLeft, Nat.shiftLeft_eq]; simp
theorem N_shr (x : BitVec 32) (k : Nat) : N x / 2 ^ k = N (x >>> k) := by
  unfold N; rw [BitVec.toNat_ushiftRight, Nat.shiftRight_eq_div_pow]; simp
theorem B_and (x y : BitVec 8) : bits .and .u8 (B x) (B y) = B (x &&& y) := by
  show IntKind.u8.wrap ((BitVec.ofInt 8 (B x) &&& BitVec.ofInt 8 (B y)).toNat : Int) = _
  rw [ofInt_B, ofInt_B, wrap_B]
theorem B_or (x y : BitVec 8) : bits .or .u8 (B x) (B y) = B (x ||| y) := by
  show IntKind.u8.wrap ((BitVec.ofInt 8 (B x) ||| BitVec.ofInt 8 (B y)).toNat : Int) = _
  rw [ofInt_B, ofInt_B, wrap_B]
theorem B_xor (x y : BitVec 8) : bits .xor .u8 (B x) (B y) = B (x ^^^ y) := by
  show IntKind.u8.wrap ((BitVec.ofInt 8 (B x) ^^^ BitVec.ofInt 8 (B y)).toNat : Int) = _
  rw [ofInt_B, ofInt_B, wrap_B]
theorem B_add (x y : BitVec 8) : IntKind.u8.wrap (B x + B y) = B (x + y) := by
  rw [IntKind.wrap_u8']; unfold B; rw [BitVec.toNat_add]; omega
theorem B_shl (x : BitVec 8) (k : Nat) : IntKind.u8.wrap (B x * 2 ^ k) = B (x <<< k) := by
  rw [IntKind.wrap_u8']; unfold B; rw [BitVec.toNat_shiftLeft, Nat.shiftLeft_eq]; simp
theorem B_shr (x : BitVec 8) (k : Nat) : B x / 2 ^ k = B (x >>> k) := by
  unfold B; rw [BitVec.toNat_ushiftRight, Nat.shiftRight_eq_div_pow]; simp
/-- A byte as a word; a word's low byte. -/
def w8 (x : BitVec 8) : BitVec 32 := x.setWidth 32
def b32 (x : BitVec 32) : BitVec 8 := x.setWidth 8
theorem N_of_B (x : BitVec 8) : IntKind.u32.wrap (B x) = N (w8 x) := by
  rw [IntKind.wrap_u32']; unfold B N w8; rw [BitVec.toNat_setWidth]; simp
theorem N_w8 (x : BitVec 8) : B x = N (w8 x) := by
  unfold B N w8; rw [BitVec.toNat_setWidth]; have := x.isLt; omega
theorem B_of_N (x : BitVec 32) : IntKind.u8.wrap (N x) = B (b32 x) := by
  rw [IntKind.wrap_u8']; unfold B N b32; rw [BitVec.toNat_setWidth]; simp

theorem N_shl24 (x : BitVec 32) : IntKind.u32.wrap (N x * 16777216) = N (x <<< 24) := N_shl x 24
theorem N_shl16 (x : BitVec 32) : IntKind.u32.wrap (N x * 65536) = N (x <<< 16) := N_shl x 16
theorem N_shl8 (x : BitVec 32) : IntKind.u32.wrap (N x * 256) = N (x <<< 8) := N_shl x 8
theorem N_shr3 (x : BitVec 32) : N x / 8 = N (x >>> 3) := N_shr x 3
theorem N_shr10 (x : BitVec 32) : N x / 1024 = N (x >>> 10) := N_shr x 10
theorem N_shr8 (x : BitVec 32) : N x / 256 = N (x >>> 8) := N_shr x 8
theorem N_shr16 (x : BitVec 32) : N x / 65536 = N (x >>> 16) := N_shr x 16
theorem N_shr24 (x : BitVec 32) : N x / 16777216 = N (x >>> 24) := N_shr x 24
theorem N_sr (x : BitVec 32) (yk : IntKind) (k : Nat) (hk : k ≤ 32) (y : Int) (hy : y = (k : Int)) : Op.shift .shr .u32 (N x) yk y = pure (.int .u32 (N (x >>> k))) := by
  subst hy
  rw [shift_shr_any _ _ _ _ (by omega)]
  have : min ((k : Int).toNat) IntKind.u32.bits = k := by show min _ 32 = k; omega
  rw [this, N_shr]
theorem N_sr3 (x : BitVec 32) (yk : IntKind) : Op.shift .shr .u32 (N x) yk 3 = pure (.int .u32 (N (x >>> 3))) := N_sr x yk 3 (by omega) _ rfl
theorem N_sr10 (x : BitVec 32) (yk : IntKind) : Op.shift .shr .u32 (N x) yk 10 = pure (.int .u32 (N (x >>> 10))) := N_sr x yk 10 (by omega) _ rfl
theorem N_sr8 (x : BitVec 32) (yk : IntKind) : Op.shift .shr .u32 (N x) yk 8 = pure (.int .u32 (N (x >>> 8))) := N_sr x yk 8 (by omega) _ rfl
theorem N_sr16 (x : BitVec 32) (yk : IntKind) : Op.shift .shr .u32 (N x) yk 16 = pure (.int .u32 (N (x >>> 16))) := N_sr x yk 16 (by omega) _ rfl
theorem N_sr24 (x : BitVec 32) (yk : IntKind) : Op.shift .shr .u32 (N x) yk 24 = pure (.int .u32 (N (x >>> 24))) := N_sr x yk 24 (by omega) _ rfl
/-- A word turned to the right. -/
def rotr (x : BitVec 32) (k : Nat) : BitVec 32 := (x >>> k) ||| (x <<< (32 - k))
theorem rotr_of (x : BitVec 32) (k : Nat) (u v : Int) (hu : u = 2 ^ (32 - k)) (hv : v = 2 ^ k) :
    bits .or .u32 (IntKind.u32.wrap (N x * u)) (N x / v) = N (rotr x k) := by
  subst hu hv
  rw [N_shl, N_shr, N_or, BitVec.or_comm]; rfl
theorem rotr_of' (x : BitVec 32) (k : Nat) (u v : Int) (hu : u = 2 ^ (32 - k)) (hv : v = 2 ^ k) :
    bits .or .u32 (N x / v) (IntKind.u32.wrap (N x * u)) = N (rotr x k) := by
  subst hu hv
  rw [N_shl, N_shr, N_or]; rfl
end Go.Proofs.YtefamkckoikeoaaDoor
/- Byte slices that read as lists: as strings, cut, appended, made. Condition: a nil slice has no capacity. -/
namespace Go.Proofs.YtefamkckoikeoaaDoor
open Go.RowKit
def u8v (x : BitVec 8) : Value := .int .u8 (B x)
def at8 (l : List (BitVec 8)) (i : Nat) : BitVec 8 := l.getD i 0
theorem at8_of (l : List (BitVec 8)) (i : Nat) (h : i < l.length) : (l.map u8v)[i]? = some (.int .u8 (B (at8 l i))) := by
  rw [List.getElem?_map, List.getElem?_eq_getElem h]
  simp [at8, u8v, List.getD_eq_getElem?_getD, List.getElem?_eq_getElem h]
theorem take_at8 (l : List (BitVec 8)) (k : Nat) (h : k < l.length) : l.take (k + 1) = l.take k ++ [at8 l k] := by
  rw [List.take_succ_eq_append_getElem h]
  simp [at8, List.getD_eq_getElem?_getD, List.getElem?_eq_getElem h]
theorem drop_at8 (l : List (BitVec 8)) (k : Nat) (h : k < l.length) : l.drop k = at8 l k :: l.drop (k + 1) := by
  rw [List.drop_eq_getElem_cons h]
  simp [at8, List.getD_eq_getElem?_getD, List.getElem?_eq_getElem h]
theorem u8v_one (l : List (BitVec 8)) : (l.map u8v).toArray.all (·.oneCell') = true :=
  Array.all_eq_true_iff_forall_mem.2 (fun v hv => by
    have : v ∈ l.map u8v := by simpa using hv
    obtain ⟨x, _, rfl⟩ := List.mem_map.1 this
    rfl)
def strB (l : List (BitVec 8)) : ByteArray := ⟨(l.map UInt8.ofBitVec).toArray⟩
theorem strB_of (l : List (BitVec 8)) : (l.map B).foldl (fun r n => r.push (UInt8.ofNat n.toNat)) ByteArray.empty = strB l := by
  have h : ∀ (l : List (BitVec 8)) (b : ByteArray), (l.map B).foldl (fun r n => r.push (UInt8.ofNat n.toNat)) b = ⟨(b.data.toList ++ l.map UInt8.ofBitVec).toArray⟩ := by
    intro l
    induction l with
    | nil => intro b; simp
    | cons x l ih =>
      intro b
      rw [List.map_cons, List.foldl_cons, ih]
      have e : UInt8.ofNat (B x).toNat = UInt8.ofBitVec x := by unfold B; simp
      rw [e]
      simp [ByteArray.push]
  rw [h]; rfl
theorem ofBitVec_inj (x y : BitVec 8) (h : UInt8.ofBitVec x = UInt8.ofBitVec y) : x = y := by injection h
theorem strB_list (l : List (BitVec 8)) : (strB l).toList = l.map UInt8.ofBitVec := by
  rw [ByteArray.toList_eq]; simp [strB]
theorem map_inj8 : ∀ (x y : List (BitVec 8)), x.map UInt8.ofBitVec = y.map UInt8.ofBitVec → x = y
  | [], [], _ => rfl
  | [], _ :: _, h => by simp at h
  | _ :: _, [], h => by simp at h
  | a :: x, b :: y, h => by
    simp only [List.map_cons, List.cons.injEq] at h
    rw [ofBitVec_inj _ _ h.1, map_inj8 x y h.2]
theorem strB_beq (x y : List (BitVec 8)) : ((strB x).toList == (strB y).toList) = decide (x = y) := by
  rw [strB_list, strB_list, Bool.eq_iff_iff, beq_iff_eq, decide_eq_true_iff]
  exact ⟨map_inj8 x y, fun h => by rw [h]⟩
theorem str_run (l : List (BitVec 8)) (q : Option Addr) (cap : Nat) (b : Nat) (w : World) (hs : Sees w b q (l.map u8v)) :
    (convert 30 9 (.slice q l.length cap)).run Tryd.prog w = .ok (.string (strB l)) w := by
  rw [run_convert_bytes_string (P := Tryd.prog) w 30 9 5 q l.length cap Tryd.underlying30 Tryd.underlying5 Tryd.underlying9]
  by_cases h0 : l = []
  · subst h0
    cases q <;> simp [Conv.bytesToString, loadCells, strB] <;> rfl
  · obtain ⟨a, rfl, _, hc⟩ := hs.get (by simpa using List.length_pos_iff.2 h0)
    have hcv : (loadCells a l.length).run Tryd.prog w = .ok ((l.map B).map (Value.int .u8)).toArray w := by
      have e1 : (l.map B).map (Value.int .u8) = l.map u8v := by rw [List.map_map]; rfl
      rw [e1]
      have := run_loadCells_list (P := Tryd.prog) w a (l.map u8v) hc
      rw [List.length_map] at this
      exact this
    rw [run_bytesToString w a l.length cap _ hcv, strB_of]
theorem u8_info : (Tryd.prog.info? 5).map (fun i => (i.zero, i.size, i.bytes)) = some (some (.int .u8 0), 1, 1) := by kernel_rfl
/-- What 'b[from:]', 'b[:to]' are. -/
def cutQ (a : Option Addr) (cap k : Nat) : Option Addr := if cap = k then a else a.map (·.add k)
theorem cut_from (a : Option Addr) (n cap f : Nat) (h1 : f ≤ n) (w : World) :
    (Instr.slice 30 (.slice a n cap) (some (.int .i64 (f : Int))) none none).run Tryd.prog w = .ok (.slice (cutQ a cap f) (n - f) (cap - f)) w := by
  obtain ⟨i0, hi, _, hz1, _⟩ := info_parts u8_info
  have he : Tryd.prog.elem 30 = 5 := by kernel_rfl
  rw [run_slice_l (ht := by rw [he]; exact Tryd.underlying30) (h0 := by omega) (h1 := by omega), he]
  simp [sizeOf, typeInfo, hi, hz1, sliced, cutQ]
theorem cut_to (a : Option Addr) (n cap t : Nat) (h1 : t ≤ cap) (w : World) :
    (Instr.slice 30 (.slice a n cap) none (some (.int .i64 (t : Int))) none).run Tryd.prog w = .ok (.slice (cutQ a cap 0) t cap) w := by
  obtain ⟨i0, hi, _, hz1, _⟩ := info_parts u8_info
  have he : Tryd.prog.elem 30 = 5 := by kernel_rfl
  rw [run_slice_h (ht := by rw [he]; exact Tryd.underlying30) (h0 := by omega) (h2 := by omega), he]
  simp [sizeOf, typeInfo, hi, hz1, sliced, cutQ]
theorem cutQ_zero (a : Option Addr) (cap : Nat) : cutQ a cap 0 = a := by
  unfold cutQ
  split
  · rfl
  · cases a <;> simp [Addr.add]
/-- The value v reads as these bytes. -/
def Bs (w : World) (v : Value) (x : List (BitVec 8)) : Prop := ∃ q c, v = .slice q x.length c ∧ x.length ≤ c ∧ (q = none → c = 0) ∧ Sees w w.heap.size q (x.map u8v)
theorem Bs.keep {w w' : World} {v : Value} {x : List (BitVec 8)} (h : Bs w v x) (hb : Below w.heap.size w w') : Bs w' v x := by
  obtain ⟨q, c, h1, h2, h3, h4⟩ := h
  exact ⟨q, c, h1, h2, h3, (h4.keep hb).more hb.size⟩
theorem Bs.nil (w : World) : Bs w (.slice none 0 0) [] := ⟨none, 0, rfl, Nat.le_refl _, fun _ => rfl, Sees.nil _ _ _⟩
theorem Bs.own {w : World} {base n : Nat} {v : Value} {x : List (BitVec 8)} (h : w.ownsRow base 5 1 v n (x.map u8v)) : Bs w v x := by
  have hn : x.length = n := by have := h.1; simpa using this
  subst hn
  rcases h.2 with ⟨rfl, h0⟩ | ⟨g, cap, cur, rfl, hb, hg, h1, _⟩
  · have : x = [] := List.eq_nil_of_length_eq_zero h0
    subst this
    exact Bs.nil w
  · refine ⟨_, cap, rfl, h1, fun h => (by cases h), fun _ => ⟨_, rfl, (Array.getElem?_eq_some_iff.1 hg).1, ?_⟩⟩
    exact h.cells (g := g) rfl
theorem own_base {w : World} {base n : Nat} {e : TypeId} {v : Value} {xs : List Value} (h : w.ownsRow base e 1 v n xs) : ∀ k, v.ownBlock = some k → base ≤ k := by
  intro k hk
  rcases h.2 with ⟨rfl, _⟩ | ⟨g, cap, cur, rfl, hb, _⟩
  · simp [Value.ownBlock] at hk
  · simp [Value.ownBlock] at hk; omega
theorem own_keep {w w' : World} {base n : Nat} {e : TypeId} {v : Value} {xs : List Value} {b : Nat} (h : w.ownsRow base e 1 v n xs) (hb : Below b w w') (hs : ∀ k, k < w.heap.size → k < b) : w'.ownsRow base e 1 v n xs := by
  refine ⟨h.1, ?_⟩
  rcases h.2 with h1 | ⟨g, cap, cur, rfl, h1, h2, h3⟩
  · exact .inl h1
  · exact .inr ⟨g, cap, cur, rfl, h1, (hb.block g (hs g (Array.getElem?_eq_some_iff.1 h2).1)).trans h2, h3⟩
theorem grown_refl (w : World) (row : Option Nat) : w.grownBy w row := ⟨rfl, rfl, rfl, Nat.le_refl _, fun _ _ _ => rfl⟩
theorem wpList_append_sees {ops : Array Oper} {rest : List Oper} {o : Oper} {a : Act} {w : World} {Q : Exit → Act → World → Prop} (hgd : o.guard = none) (s x : Operand)
    (ho : o.op = .call { callee := .builtin .append, args := #[s, x], argTypes := #[30, 30] })
    (base : Nat) (v : Value) (n : Nat) (xs : List Value) (hs : a.eval s = v) (hown : w.ownsRow base 5 1 v n xs)
    (q : Option Addr) (l : List (BitVec 8)) (cap b : Nat) (hx : a.eval x = .slice q l.length cap) (hq : q = none → cap = 0) (hl : Sees w b q (l.map u8v))
    (hbytes : n + l.length ≤ 140737488355328) (hbase : base ≤ w.heap.size)
    (h : ∀ v' w', w'.ownsRow base 5 1 v' (n + l.length) (xs ++ l.map u8v) → Below base w w' → wpList Tryd.prog ops Q rest (a.put o.dst v') w') : wpList Tryd.prog ops Q (o :: rest) a w := by
  obtain ⟨i0, hi, hz0, hz1, hz2⟩ := info_parts u8_info
  rcases q with _ | ad
  · have hl0 : l = [] := by
      rcases l with _ | ⟨y, l⟩
      · rfl
      · obtain ⟨a, h1, _⟩ := hl.get (by simp)
        cases h1
    subst hl0
    obtain rfl := hq rfl
    exact wpList_append_own_none hgd s x 30 ho base 5 i0 1 Tryd.underlying30 hi v n xs hs hown hx (h v w (by simpa using hown) (Below.refl _ _))
  · refine wpList_append_own w hgd s x 30 ho base 5 i0 (.int .u8 0) 1 1 Tryd.underlying30 hi hz0 hz1 hz2 rfl (by decide) v n xs hs hown ad l.length cap (l.map u8v) hx (by simp) (fun j u hj => ?_) (fun u hu => ?_) (by unfold maxLen; omega) (by omega) hbase (fun v' w' h1 h2 _ => ?_)
    · obtain ⟨a', h1, _, h3⟩ := hl.get (by have := (List.getElem?_eq_some_iff.1 hj).1; omega)
      cases h1
      exact h3 j u hj
    · obtain ⟨y, _, rfl⟩ := List.mem_map.1 hu
      rfl
    · exact h v' w' h1 ((Below.refl base w).grown h2 hbase (fun k hk => own_base hown k hk))
theorem made_run (n : Nat) (hn : n ≤ 281474976710656) (w : World) :
    (Instr.makeSlice 30 (.int .i64 0) (.int .i64 (n : Int))).run Tryd.prog w = .ok (.slice (some ⟨w.heap.size, 0, none⟩) 0 n) (w.alloc (.cells (madeCells #[Value.int .u8 0] n) 5)) := by
  obtain ⟨i0, hi, hz0, hz1, hz2⟩ := info_parts u8_info
  have := run_make (P := Tryd.prog) w 30 5 i0 (.int .u8 0) Tryd.underlying30 hi hz0 .i64 .i64 0 n (by omega) (by omega) (by rw [hz2]; omega) (by omega)
  rw [hz1, Nat.mul_one, show (Value.int .u8 0).cells = #[Value.int .u8 0] from rfl] at this
  simpa using this
theorem made_own (n : Nat) (hn : n ≤ 281474976710656) (w : World) (base : Nat) (hb : base ≤ w.heap.size) :
    (w.alloc (.cells (madeCells #[Value.int .u8 0] n) 5)).ownsRow base 5 1 (.slice (some ⟨w.heap.size, 0, none⟩) 0 n) 0 [] :=
  World.ownsRow_made w _ n hb (by unfold maxLen; omega) (by rw [Nat.mul_one]; exact size_madeCells _ _)

/-- What a call hands back that makes a new row. -/
def Gives (w : World) (x : List (BitVec 8)) (e : Ending) (w' : World) : Prop := ∃ v, e = .returned v ∧ Bs w' v x ∧ Below w.heap.size w w'
theorem cutQ_none (q : Option Addr) (c f : Nat) (hq : q = none → c = 0) : cutQ q c f = none → c - f = 0 := by
  intro h
  unfold cutQ at h
  split at h
  · omega
  · cases q with
    | none => have := hq rfl; omega
    | some a => simp at h
theorem Bs.cut {w : World} {b : List (BitVec 8)} {q : Option Addr} {c : Nat} (hc : b.length ≤ c) (hq : q = none → c = 0) (hs : Sees w w.heap.size q (b.map u8v)) (f : Nat) (hf : f ≤ b.length) :
    Bs w (.slice (cutQ q c f) (b.length - f) (c - f)) (b.drop f) := by
  refine ⟨cutQ q c f, c - f, by rw [List.length_drop], by rw [List.length_drop]; omega, cutQ_none q c f hq, ?_⟩
  rw [List.map_drop]
  exact hs.cut (by simpa using hc)
end Go.Proofs.YtefamkckoikeoaaDoor
/- Entries of a tree in memory, and the document's own reckoning with them, plainly: a row of entries, three cells each. No condition. -/
namespace Go.Proofs.YtefamkckoikeoaaDoor
open Go.RowKit
/-- An entry: its path, whether it is a directory, its bytes' value, its bytes. -/
abbrev Ent := ByteArray × Bool × Value × List (BitVec 8)
def Ent.pa (e : Ent) : Tx := e.1.data.toList
def Ent.dir (e : Ent) : Bool := e.2.1
def Ent.val (e : Ent) : Value := e.2.2.1
def Ent.by (e : Ent) : List (BitVec 8) := e.2.2.2
/-- Its three cells; its value. -/
def entC (e : Ent) : List Value := [.string e.1, .bool e.2.1, e.2.2.1]
def entV (e : Ent) : Value := .agg #[.string e.1, .bool e.2.1, e.2.2.1]
def rowC (C : List Ent) : List Value := C.flatMap entC
theorem rowC_nil : rowC [] = [] := rfl
theorem rowC_cons (e : Ent) (C : List Ent) : rowC (e :: C) = entC e ++ rowC C := rfl
theorem rowC_add (C : List Ent) (e : Ent) : rowC (C ++ [e]) = rowC C ++ entC e := by
  unfold rowC
  rw [List.flatMap_append]
  simp
theorem rowC_len (C : List Ent) : (rowC C).length = 3 * C.length := by
  induction C with
  | nil => rfl
  | cons e C ih => rw [rowC_cons, List.length_append, ih, List.length_cons]; simp [entC]; omega
theorem rowC_get : ∀ (C : List Ent) (i : Nat) (h : i < C.length), (rowC C)[i * 3]? = some (.string C[i].1) ∧ (rowC C)[i * 3 + 1]? = some (.bool C[i].2.1) ∧ (rowC C)[i * 3 + 2]? = some C[i].2.2.1
  | [], i, h => absurd h (by simp)
  | e :: C, 0, _ => ⟨rfl, rfl, rfl⟩
  | e :: C, i + 1, h => by
    obtain ⟨h1, h2, h3⟩ := rowC_get C i (by simpa using h)
    rw [rowC_cons]
    have hl : (entC e).length = 3 := rfl
    refine ⟨?_, ?_, ?_⟩
    · rw [List.getElem?_append_right (by rw [hl]; omega), hl, show (i + 1) * 3 - 3 = i * 3 by omega]; simpa using h1
    · rw [List.getElem?_append_right (by rw [hl]; omega), hl, show (i + 1) * 3 + 1 - 3 = i * 3 + 1 by omega]; simpa using h2
    · rw [List.getElem?_append_right (by rw [hl]; omega), hl, show (i + 1) * 3 + 2 - 3 = i * 3 + 2 by omega]; simpa using h3
/-- The value v reads as these entries. -/
def TrV (w : World) (v : Value) (C : List Ent) : Prop := ∃ q c, v = .slice q C.length c ∧ C.length ≤ c ∧ (q = none → c = 0) ∧ Sees w w.heap.size q (rowC C)
/-- The entries' bytes are there. -/
def Ents (w : World) (C : List Ent) : Prop := ∀ e ∈ C, Bs w e.val e.by
theorem Ents.keep {w w' : World} {C : List Ent} (h : Ents w C) (hb : Below w.heap.size w w') : Ents w' C := fun e he => (h e he).keep hb
theorem TrV.keep {w w' : World} {v : Value} {C : List Ent} (h : TrV w v C) (hb : Below w.heap.size w w') : TrV w' v C := by
  obtain ⟨q, c, h1, h2, h3, h4⟩ := h
  exact ⟨q, c, h1, h2, h3, (h4.keep hb).more hb.size⟩
/-- Three cells of the one at hand. -/
theorem Sees.ent {w : World} {b : Nat} {q : Option Addr} {C : List Ent} (h : Sees w b q (rowC C)) {i : Nat} (hi : i < C.length) :
    ∃ a, q = some a ∧ a.block < b ∧ ∀ w', Below b w w' → w'.cell? (a.add (i * 3)) = some (.string C[i].1) ∧ w'.cell? ⟨(a.add (i * 3)).block, (a.add (i * 3)).off + 1, none⟩ = some (.bool C[i].2.1) ∧ w'.cell? ⟨(a.add (i * 3)).block, (a.add (i * 3)).off + 2, none⟩ = some C[i].2.2.1 := by
  obtain ⟨a, rfl, hb, hc⟩ := h.get (by rw [rowC_len]; omega)
  obtain ⟨h1, h2, h3⟩ := rowC_get C i hi
  have e1 : (⟨(a.add (i * 3)).block, (a.add (i * 3)).off + 1, none⟩ : Addr) = a.add (i * 3 + 1) := by rw [← add_add]; rfl
  have e2 : (⟨(a.add (i * 3)).block, (a.add (i * 3)).off + 2, none⟩ : Addr) = a.add (i * 3 + 2) := by rw [← add_add]; rfl
  refine ⟨a, rfl, hb, fun w' hw => ⟨(hw.cell (by rw [add_block]; exact hb)).trans (hc _ _ h1), ?_, ?_⟩⟩
  · rw [e1]; exact (hw.cell (by rw [add_block]; exact hb)).trans (hc _ _ h2)
  · rw [e2]; exact (hw.cell (by rw [add_block]; exact hb)).trans (hc _ _ h3)
/-- Its place; -1. -/
def atT : List Ent → Tx → Int
  | [], _ => -1
  | e :: C, p => if e.pa = p then 0 else if atT C p < 0 then -1 else atT C p + 1
theorem atT_ge (C : List Ent) (p : Tx) : -1 ≤ atT C p := by
  induction C with
  | nil => exact Int.le_refl _
  | cons e C ih => unfold atT; split; omega; split <;> omega
theorem atT_lt (C : List Ent) (p : Tx) : atT C p < C.length := by
  induction C with
  | nil => simp [atT]
  | cons e C ih => unfold atT; rw [List.length_cons]; split; omega; split <;> omega
theorem atT_no {C : List Ent} {p : Tx} (h : ∀ e ∈ C, e.pa ≠ p) : atT C p = -1 := by
  induction C with
  | nil => rfl
  | cons e C ih => unfold atT; rw [if_neg (h e (List.mem_cons_self ..)), ih fun x hx => h x (List.mem_cons_of_mem _ hx)]; rfl
theorem atT_at : ∀ {C : List Ent} {p : Tx} {i : Nat} (hi : i < C.length), (∀ e ∈ C.take i, e.pa ≠ p) → C[i].pa = p → atT C p = i
  | [], _, i, hi, _, _ => absurd hi (by simp)
  | e :: C, p, 0, _, _, h => by
    have h' : e.pa = p := h
    unfold atT; rw [if_pos h']; rfl
  | e :: C, p, i + 1, hi, hn, h => by
    have ih := atT_at (C := C) (p := p) (i := i) (by simpa using hi) (fun x hx => hn x (by rw [List.take_succ_cons]; exact List.mem_cons_of_mem _ hx)) (by simpa using h)
    unfold atT
    rw [if_neg (hn e (by rw [List.take_succ_cons]; exact List.mem_cons_self ..)), ih, if_neg (by omega)]
    omega
/-- All bytes together. -/
def bytesT (C : List Ent) : Nat := (C.map fun e => e.by.length).sum
theorem bytesT_add (C : List Ent) (i : Nat) (h : i < C.length) : bytesT (C.take (i + 1)) = bytesT (C.take i) + C[i].by.length := by
  unfold bytesT
  rw [List.take_add_one, List.getElem?_eq_getElem h, List.map_append, List.sum_append]
  simp
theorem bytesT_take (C : List Ent) (i : Nat) : bytesT (C.take i) ≤ bytesT C := by
  have h : bytesT C = bytesT (C.take i) + bytesT (C.drop i) := by
    unfold bytesT
    rw [← List.sum_append, ← List.map_append, List.take_append_drop]
  omega
end Go.Proofs.YtefamkckoikeoaaDoor
/- Contracts: the document's own At, Bytes. Conditions: at most 2^40 entries; all bytes together at most 2^62. -/
namespace Go.Proofs.YtefamkckoikeoaaDoor
open Go.RowKit
set_option maxHeartbeats 4000000 in
set_option maxRecDepth 100000 in
theorem rat_any (C : List Ent) (q : Option Addr) (c : Nat) (p : ByteArray) (hm : C.length ≤ 1099511627776) (w : World) (hs : Sees w w.heap.size q (rowC C)) :
    Calls Tryd.prog 86 #[.slice q C.length c, .string p] w fun e w' => e = .returned (.int .i64 (atT C p.data.toList)) ∧ w = w' := by
  have HS := Lib.hid hs
  clear hs
  obtain ⟨V, hV⟩ : ∃ V, atT C p.data.toList = V := ⟨_, rfl⟩
  rw [hV]
  have HV := Lib.hid hV
  clear hV
  go_enter Tryd.func86, Tryd.ntmps86
  go_wp2_with fail
  go_loop [5] (fun vi => ∃ i : Nat, i ≤ C.length ∧ vi = .int .i64 i ∧ ∀ e ∈ C.take i, e.pa ≠ p.data.toList) (fun vi => C.length - (intOf vi).toNat)
  case atStart => exact ⟨0, by omega, rfl, by simp⟩
  case round =>
    obtain ⟨i, hi, rfl, hn⟩ := hrel
    have HN := Lib.hid hn
    clear hn
    by_cases hlt : i < C.length
    · obtain ⟨a, rfl, ha, hc⟩ := HS.out.ent hlt
      obtain ⟨c1, _, _⟩ := hc w (Below.refl _ _)
      have kk : (i : Int) < (C.length : Int) := by omega
      obtain ⟨x, hx⟩ : ∃ x, C[i].1 = x := ⟨_, rfl⟩
      rw [hx] at c1
      have hlx : x.toList = x.data.toList := Lib.toList_data x
      have hlp : p.toList = p.data.toList := Lib.toList_data p
      have hpa : C[i].pa = x.data.toList := by rw [← hx]; rfl
      have HPA := Lib.hid hpa
      clear hc ha hx hpa
      by_cases he : x.data.toList = p.data.toList
      · have hv : V = (i : Int) := by rw [← HV.out]; exact atT_at hlt HN.out (HPA.out.trans he)
        subst hv
        have k1 : (x.data.toList == p.data.toList) = true := by rw [beq_iff_eq]; exact he
        clear he
        go_wp2_with fail
        go_ret
        try exact ⟨rfl, rfl⟩
      · have k1 : (x.data.toList == p.data.toList) = false := by rw [beq_eq_false_iff_ne]; exact he
        have HNX : Hid (∀ e ∈ C.take (i + 1), e.pa ≠ p.data.toList) := Lib.hid (by
          intro e h
          rw [List.take_add_one, List.getElem?_eq_getElem hlt] at h
          rcases List.mem_append.1 h with h | h
          · exact HN.out e h
          · have : e = C[i] := by simpa using h
            rw [this, HPA.out]; exact he)
        clear he
        go_wp2_with fail
        go_round
        case rel => exact ⟨i + 1, by omega, by go_num, HNX.out⟩
        case measure => simp [intOf]; omega
    · have hil : i = C.length := by omega
      subst hil
      have k0 : ¬ (C.length : Int) < (C.length : Int) := by omega
      have hv : V = -1 := by rw [← HV.out]; exact atT_no (fun e he => HN.out e (by rw [List.take_length]; exact he))
      subst hv
      clear hlt
      go_wp2_with fail
      go_ret
      try exact ⟨rfl, rfl⟩
set_option maxHeartbeats 4000000 in
set_option maxRecDepth 100000 in
theorem rbytes_any (C : List Ent) (q : Option Addr) (c : Nat) (hm : C.length ≤ 1099511627776) (hb : bytesT C ≤ 4611686018427387904) (w : World) (hs : Sees w w.heap.size q (rowC C)) (hE : Ents w C) :
    Calls Tryd.prog 68 #[.slice q C.length c] w fun e w' => e = .returned (.int .i64 (bytesT C : Nat)) ∧ w = w' := by
  have HS := Lib.hid hs
  have HE := Lib.hid hE
  clear hs hE
  go_enter Tryd.func68, Tryd.ntmps68
  go_wp2_with fail
  go_loop [3, 4] (fun vn vi => ∃ i : Nat, i ≤ C.length ∧ vi = .int .i64 i ∧ vn = .int .i64 (bytesT (C.take i) : Nat)) (fun _ vi => C.length - (intOf vi).toNat)
  case atStart => exact ⟨0, by omega, rfl, rfl⟩
  case round =>
    obtain ⟨i, hi, rfl, rfl⟩ := hrel
    by_cases hlt : i < C.length
    · obtain ⟨a, rfl, ha, hc⟩ := HS.out.ent hlt
      obtain ⟨_, _, c1⟩ := hc w (Below.refl _ _)
      obtain ⟨qb, cb, hv, _, _, _⟩ := HE.out C[i] (List.getElem_mem hlt)
      have hadd := bytesT_add C i hlt
      have hle := bytesT_take C (i + 1)
      rw [show C[i].2.2.1 = .slice qb C[i].by.length cb from hv] at c1
      have kk : (i : Int) < (C.length : Int) := by omega
      obtain ⟨m, hm2⟩ : ∃ m, C[i].by.length = m := ⟨_, rfl⟩
      obtain ⟨s, hs2⟩ : ∃ s, bytesT (C.take i) = s := ⟨_, rfl⟩
      rw [hm2] at c1 hadd
      rw [hs2] at hadd ⊢
      rw [hadd] at hle
      have HAD := Lib.hid hadd
      clear hc ha hv hm2 hadd
      go_wp2_with fail
      go_round
      case rel => exact ⟨i + 1, by omega, by go_num, by rw [HAD.out]; go_num⟩
      case measure => simp [intOf]; omega
    · have hil : i = C.length := by omega
      subst hil
      have k0 : ¬ (C.length : Int) < (C.length : Int) := by omega
      rw [List.take_length]
      clear hlt
      go_wp2_with fail
      go_ret
      try exact ⟨rfl, rfl⟩
end Go.Proofs.YtefamkckoikeoaaDoor
/- Contract: the document's own 'without'. Condition: at most 10^6 entries. -/
namespace Go.Proofs.YtefamkckoikeoaaDoor
open Go.RowKit
theorem ent_info : (Tryd.prog.info? 110).map (fun i => (i.zero, i.size, i.bytes)) = some (some (.agg #[.string ⟨#[]⟩, .bool false, .slice none 0 0]), 3, 48) := by kernel_rfl
theorem own_base3 {w : World} {base n : Nat} {e : TypeId} {v : Value} {xs : List Value} (h : w.ownsRow base e 3 v n xs) : ∀ k, Value.ownBlock v = some k → base ≤ k := by
  intro k hk
  rcases h.2 with ⟨rfl, _⟩ | ⟨g, cap, cur, rfl, hb, _⟩
  · cases hk
  · have e : g = k := by simpa [Value.ownBlock] using hk
    omega
theorem own_below3 {w w' : World} {base n : Nat} {e : TypeId} {v : Value} {xs : List Value} (h : w.ownsRow base e 3 v n xs) (hb : RowKit.Below w.heap.size w w') : w'.ownsRow base e 3 v n xs :=
  h.kept (row := none) ⟨hb.os, hb.tape, hb.output, hb.size, fun k hk _ => hb.block k hk⟩ (by
    rcases h.2 with ⟨rfl, _⟩ | ⟨k, cap, cur, rfl, _⟩
    · exact .inl rfl
    · exact .inr (by simp [Value.ownBlock]))
/-- A row of entries of the call's own. -/
def OwnE (w : World) (base : Nat) (v : Value) (C : List Ent) : Prop := w.ownsRow base 110 3 v C.length (rowC C)
theorem OwnE.nil (w : World) (base : Nat) : OwnE w base (.slice none 0 0) [] := World.ownsRow_nil w base 110 3
theorem OwnE.tr {w : World} {base : Nat} {v : Value} {C : List Ent} (h : OwnE w base v C) : TrV w v C := by
  rcases h.2 with ⟨rfl, h0⟩ | ⟨g, cap, cur, rfl, hb, hg, h1, _⟩
  · have : C = [] := List.eq_nil_of_length_eq_zero h0
    subst this
    exact ⟨none, 0, rfl, Nat.le_refl _, fun _ => rfl, Sees.nil _ _ _⟩
  · refine ⟨_, cap, rfl, h1, fun e => by (cases e), fun _ => ⟨_, rfl, (Array.getElem?_eq_some_iff.1 hg).1, ?_⟩⟩
    exact World.ownsRow.cells h (g := g) rfl
/-- One entry is put behind a row that the call owns. -/
theorem wp_addE {ops : Array Oper} {rest : List Oper} {o : Oper} {a : Act} {Q : Exit → Act → World → Prop}
    (hgd : o.guard = none) (sl x : Operand) (ho : o.op = .call { callee := .builtin .append, args := #[sl, x], argTypes := #[66, 66] }) {w : World} {base : Nat} {v : Value} {C : List Ent} (R : OwnE w base v C) (hbase : base ≤ w.heap.size)
    (hs : a.eval sl = v) (g : Nat) (e : Ent) (hx : a.eval x = .slice (some ⟨g, 0, none⟩) 1 1) (hc : Has w g 110 (entC e)) (h1 : e.2.2.1.oneCell' = true) (hn : C.length ≤ 1000000)
    (h : ∀ v' w', OwnE w' base v' (C ++ [e]) → Below base w w' → wpList Tryd.prog ops Q rest (a.put o.dst v') w') : wpList Tryd.prog ops Q (o :: rest) a w := by
  obtain ⟨i0, hi, hz0, hz1, hz2⟩ := info_parts ent_info
  refine wpList_append_own _ hgd sl x 66 ho base 110 i0 _ 3 48 Tryd.underlying66 hi hz0 hz1 hz2 rfl (by decide) v C.length (rowC C) hs R ⟨g, 0, none⟩ 1 1 (entC e) hx rfl ?_ ?_ (by unfold maxLen; omega) ?_ hbase
    fun v' w' ho' hg' _ => h v' w' (by unfold OwnE; rw [rowC_add, List.length_append]; exact ho') ((Below.refl base w).grown hg' hbase (fun k hk => own_base3 R k hk))
  · intro j u hj
    have e2 : (Addr.add ⟨g, 0, none⟩ j) = ⟨g, j, none⟩ := by unfold Addr.add; split <;> simp_all
    rw [e2]; exact hc.cellv hj
  · intro u hu
    simp only [entC, List.mem_cons, List.mem_nil_iff, or_false] at hu
    rcases hu with rfl | rfl | rfl
    · rfl
    · rfl
    · exact h1
  · exact Nat.le_trans (Nat.mul_le_mul (show C.length + 1 ≤ 1000001 by omega) (Nat.le_refl 48)) (by decide)
def withoutT (C : List Ent) (p : Tx) : List Ent := C.filter fun e => !(e.pa == p)
set_option maxHeartbeats 4000000 in
set_option maxRecDepth 100000 in
theorem rwithout_any (C : List Ent) (q : Option Addr) (c : Nat) (p : ByteArray) (hm : C.length ≤ 1000000) (w : World) (hs : Sees w w.heap.size q (rowC C)) (hE : Ents w C) :
    Calls Tryd.prog 104 #[.slice q C.length c, .string p] w fun e w' => (∃ v, e = .returned v ∧ TrV w' v (withoutT C p.data.toList)) ∧ Below w.heap.size w w' := by
  have HS := Lib.hid hs
  have HE := Lib.hid hE
  have HNIL := Lib.hid (OwnE.nil w w.heap.size)
  clear hs hE
  go_enter Tryd.func104, Tryd.ntmps104
  go_wp2_with fail
  go_loopw [5, 6] (fun v vi wr => ∃ i : Nat, i ≤ C.length ∧ vi = .int .i64 i ∧ OwnE wr w.heap.size v (withoutT (C.take i) p.data.toList) ∧ Below w.heap.size w wr) (fun _ vi _ => C.length - (intOf vi).toNat)
  case atStart => exact ⟨0, by omega, rfl, HNIL.out, Below.refl _ _⟩
  case round =>
    rename_i wr
    obtain ⟨i, hi, rfl, hrow, hB⟩ := hrel
    have HROW := Lib.hid hrow
    have HB := Lib.hid hB
    clear hrow hB
    by_cases hlt : i < C.length
    · obtain ⟨a, rfl, ha, hc⟩ := HS.out.ent hlt
      obtain ⟨c1, c2, c3⟩ := hc wr HB.out
      obtain ⟨qb, cb, hv, _, _, _⟩ := HE.out C[i] (List.getElem_mem hlt)
      have kk : (i : Int) < (C.length : Int) := by omega
      have hgl : (withoutT (C.take i) p.data.toList).length ≤ i := Nat.le_trans (List.length_filter_le _ _) (List.length_take_le _ _)
      have htk : withoutT (C.take (i + 1)) p.data.toList = withoutT (C.take i) p.data.toList ++ (if (C[i].pa == p.data.toList) = true then [] else [C[i]]) := by
        unfold withoutT
        rw [List.take_add_one, List.getElem?_eq_getElem hlt, List.filter_append]
        cases hk : (C[i].pa == p.data.toList) <;> simp [hk]
      have HTK := Lib.hid htk
      obtain ⟨e, he⟩ : ∃ e, C[i] = e := ⟨_, rfl⟩
      rw [he] at c1 c2 c3 hv HTK
      obtain ⟨x, d, bv, bb⟩ := e
      simp only [] at c1 c2 c3
      have hv' : bv = .slice qb (List.length bb) cb := hv
      have h1 : bv.oneCell' = true := by rw [hv']; rfl
      have hlx : x.toList = x.data.toList := Lib.toList_data x
      have hlp : p.toList = p.data.toList := Lib.toList_data p
      clear hc ha hv hv' htk he
      cases hxp : (x.data.toList == p.data.toList) with
      | true =>
        have HNX : Hid (withoutT (C.take (i + 1)) p.data.toList = withoutT (C.take i) p.data.toList) := Lib.hid (by rw [HTK.out, if_pos (show (Ent.pa (x, d, bv, bb) == p.data.toList) = true from hxp), List.append_nil])
        go_wp2_with fail
        go_roundw
        case rel => exact ⟨i + 1, by omega, by go_num, by rw [HNX.out]; exact HROW.out, HB.out⟩
        case measure => simp [intOf]; omega
      | false =>
        have HNX : Hid (withoutT (C.take (i + 1)) p.data.toList = withoutT (C.take i) p.data.toList ++ [(x, d, bv, bb)]) := Lib.hid (by rw [HTK.out, if_neg (by rw [show (Ent.pa (x, d, bv, bb) == p.data.toList) = false from hxp]; simp)])
        have HLEN : Hid ((withoutT (C.take i) p.data.toList).length ≤ 1000000) := Lib.hid (by omega)
        go_wp2_with (refine wp_addE rfl (.tmp 20) (.tmp 25) rfl (base := w.heap.size) (World.ownsRow.alloc HROW.out (.cells #[.string x, .bool d, bv] 110)) (by have := HB.out.size; simp; omega) rfl wr.heap.size (x, d, bv, bb) rfl (Has.made' wr 110 #[.string x, .bool d, bv] _ rfl) h1 HLEN.out ?_; intro v3 w3 ho3 hb3; have HROW2 := Lib.hid ho3; have HB5 := Lib.hid hb3; clear ho3 hb3 HROW)
        go_roundw
        case rel => exact ⟨i + 1, by omega, by go_num, by rw [HNX.out]; exact HROW2.out, (HB.out.alloc HB.out.size _).trans HB5.out⟩
        case measure => simp [intOf]; omega
    · have hil : i = C.length := by omega
      subst hil
      have k0 : ¬ (C.length : Int) < (C.length : Int) := by omega
      rw [List.take_length] at HROW
      have HT := Lib.hid (OwnE.tr HROW.out)
      clear hlt HROW
      go_wp2_with fail
      go_ret
      first | exact ⟨⟨_, rfl, HT.out⟩, HB.out⟩ | exact ⟨HT.out, HB.out⟩
end Go.Proofs.YtefamkckoikeoaaDoor
/- Contract: the document's own Up. Condition: a text of at most 2^20 bytes. -/
namespace Go.Proofs.YtefamkckoikeoaaDoor
open Go.RowKit
set_option maxHeartbeats 2000000 in
theorem rup_any (s : ByteArray) (hs : s.size ≤ 1048576) (w : World) :
    Calls Tryd.prog 85 #[.string s] w fun e w' => e = .returned (.tuple #[.string ⟨(upV s.data.toList).toArray⟩, .bool (okPath s.data.toList)]) ∧ Below w.heap.size w w' := by
  have HG := Lib.hid (rgood_any s hs w)
  have HN := Lib.hid (fun w1 => names_any s hs w1)
  unfold upV upL
  cases hg : okPath s.data.toList with
  | false =>
    rw [hg] at HG
    clear hg
    go_enter Tryd.func85, Tryd.ntmps85
    go_wp2_with fail
    refine (HG.out).mono ?_
    rintro e w1 ⟨rfl, hb⟩
    go_wp2_with fail
    go_ret2
    exact ⟨rfl, hb⟩
  | true =>
    rw [hg] at HG
    rw [if_pos rfl]
    have hall : ∀ n ∈ nms s.data.toList, okName n = true ∧ 47 ∉ n := fun n hn => by
      unfold okPath at hg
      rw [Bool.and_eq_true] at hg
      exact ⟨List.all_eq_true.1 hg.2 n hn, nms_no _ n hn⟩
    have hn4 : (nms s.data.toList).length ≤ 4 := by
      unfold okPath at hg
      rw [Bool.and_eq_true] at hg
      exact of_decide_eq_true hg.1
    clear hg
    have h0 := nms_pos s.data.toList
    have hcl : (nms s.data.toList).length ≤ 1048577 := by rw [nms_count]; have : s.data.toList.count 47 ≤ s.data.toList.length := List.count_le_length; have : s.data.toList.length = s.size := rfl; omega
    generalize nms s.data.toList = N at *
    obtain ⟨V, hV⟩ : ∃ V : ByteArray, (⟨(jn N.dropLast).toArray⟩ : ByteArray) = V := ⟨_, rfl⟩
    have HV : Hid (V.data.toList = jn N.dropLast) := Lib.hid (by rw [← hV])
    rw [hV]
    clear hV
    go_enter Tryd.func85, Tryd.ntmps85
    go_wp2_with fail
    refine (HG.out).mono ?_
    rintro e w1 ⟨rfl, hb⟩
    have HB := Lib.hid hb
    clear hb
    go_wp2_with fail
    refine (HN.out _).mono ?_
    rintro e w2 ⟨⟨v, rfl, q, c, rfl, hc, hsee⟩, hb⟩
    replace HB := Lib.hid (HB.out.trans (hb.mono HB.out.size))
    clear hb
    obtain ⟨ad, rfl, hap, hcell⟩ := hsee.get (by rw [List.length_map]; omega)
    have HC := Lib.hid hcell
    clear hcell hsee
    go_wp2_with fail
    go_loop [5, 6] (fun vs vi => ∃ (i : Nat) (t : ByteArray), i + 1 ≤ N.length ∧ vi = .int .i64 i ∧ vs = .string t ∧ t.data.toList = jn (N.take i)) (fun _ vi => N.length - (intOf vi).toNat)
    case atStart => exact ⟨0, ⟨#[]⟩, by omega, rfl, rfl, rfl⟩
    case round =>
      obtain ⟨i, t, hi, rfl, rfl, ht⟩ := hrel
      have kw : IntKind.i64.wrap ((i : Int) + 1) = (i : Int) + 1 := by rw [IntWalk.i64_in _ (by omega)]
      have hts : t.size ≤ 68 := by
        have h1 := jn_len (T := N.take i) (fun n hn => hall n (List.mem_of_mem_take hn))
        rw [← ht] at h1
        have h2 : t.data.toList.length = t.size := rfl
        rw [h2, List.length_take] at h1
        omega
      by_cases hlt : i + 1 < N.length
      · have hil : i < N.length := by omega
        have c1 := HC.out i (.string ⟨N[i].toArray⟩) (by rw [List.getElem?_map, List.getElem?_eq_getElem hil]; rfl)
        have htk : N.take (i + 1) = N.take i ++ [N[i]] := by rw [List.take_add_one, List.getElem?_eq_getElem hil]; rfl
        have hx : (⟨N[i].toArray⟩ : ByteArray).data.toList = N[i] := rfl
        have hxs : (⟨N[i].toArray⟩ : ByteArray).size ≤ 16 := by
          have h1 := ok_len (hall N[i] (List.getElem_mem hil)).1
          show N[i].toArray.size ≤ 16
          simpa using h1
        have kl : (i : Int) + 1 < (N.length : Int) := by omega
        have kl2 : (i : Int) < (N.length : Int) := by omega
        by_cases h0 : i = 0
        · have hte : t.data.toList = [] := by rw [ht, h0]; rfl
          have ht0 : N.take i = [] := by rw [h0]; rfl
          have HRES : Hid ((t ++ ⟨N[i].toArray⟩).data.toList = jn (N.take (i + 1))) := Lib.hid (by
            rw [htk, ht0, ByteArray.data_append, Array.toList_append, hte, hx]; rfl)
          have k0 : ¬ (0 : Int) < (i : Int) := by omega
          have k0n : ¬ 0 < i := by omega
          clear ht0
          generalize (⟨N[i].toArray⟩ : ByteArray) = x at *
          clear htk hx h0 hte ht
          go_wp2_with fail
          go_round
          case rel => exact ⟨i + 1, _, by omega, by go_num, rfl, HRES.out⟩
          case measure => simp [intOf]; omega
        · have hne : N.take i ≠ [] := fun e => h0 (by have h9 := congrArg List.length e; rw [List.length_take, List.length_nil] at h9; omega)
          have HRES : Hid ((t ++ ⟨#[47]⟩ ++ ⟨N[i].toArray⟩).data.toList = jn (N.take (i + 1))) := Lib.hid (by
            rw [htk, jn_snoc hne, ByteArray.data_append, ByteArray.data_append, Array.toList_append, Array.toList_append, ht, hx]; simp)
          have k0 : (0 : Int) < (i : Int) := by omega
          have k0n : 0 < i := by omega
          generalize (⟨N[i].toArray⟩ : ByteArray) = x at *
          clear htk hx h0 hne ht
          go_wp2_with fail
          go_round
          case rel => exact ⟨i + 1, _, by omega, by go_num, rfl, HRES.out⟩
          case measure => simp [intOf]; omega
      · have hie : i + 1 = N.length := by omega
        have htv : t = V := by
          have h1 := HV.out
          rw [← take_last N hie, ← ht] at h1
          rw [← Lib.mk_data t, ← Lib.mk_data V, h1]
        subst htv
        have kl : ¬ (i : Int) + 1 < (N.length : Int) := by omega
        clear ht hlt hie
        go_wp2_with fail
        go_ret2
        exact ⟨rfl, HB.out⟩
end Go.Proofs.YtefamkckoikeoaaDoor
/- Contract: the document's own 'room': what a new entry's Up tells. Conditions: at most 10^6 entries, a text of at most 2^20 bytes. -/
namespace Go.Proofs.YtefamkckoikeoaaDoor
open Go.RowKit
def dirT (C : List Ent) (k : Nat) : Bool := ((C[k]?).map Ent.dir).getD false
/-- What stands at a text's place: 0 a directory (or the top), ENONE, EKIND. -/
def roomT (C : List Ent) (p : Tx) : Int := if upV p = [] then 0 else if atT C (upV p) < 0 then 5 else if dirT C (atT C (upV p)).toNat = true then 0 else 7
set_option maxHeartbeats 4000000 in
set_option maxRecDepth 100000 in
theorem rroom_any (C : List Ent) (q : Option Addr) (c : Nat) (p : ByteArray) (hm : C.length ≤ 1000000) (hp : p.size ≤ 1048576) (w : World) (hs : Sees w w.heap.size q (rowC C)) :
    Calls Tryd.prog 100 #[.slice q C.length c, .string p] w fun e w' => e = .returned (.int .i64 (roomT C p.data.toList)) ∧ Below w.heap.size w w' := by
  have HS := Lib.hid hs
  have HU := Lib.hid (fun w1 => rup_any p hp w1)
  clear hs
  obtain ⟨U, hU⟩ : ∃ U : ByteArray, (⟨(upV p.data.toList).toArray⟩ : ByteArray) = U := ⟨_, rfl⟩
  rw [hU] at HU
  have hUt : upV p.data.toList = U.data.toList := by rw [← hU]
  obtain ⟨V, hV⟩ : ∃ V, roomT C p.data.toList = V := ⟨_, rfl⟩
  rw [hV]
  unfold roomT at hV
  rw [hUt] at hV
  have HV := Lib.hid hV
  generalize okPath p.data.toList = G at *
  clear hV hU hUt
  go_enter Tryd.func100, Tryd.ntmps100
  go_wp2_with fail
  refine (HU.out _).mono ?_
  rintro e w1 ⟨rfl, hb⟩
  have HB := Lib.hid hb
  clear hb
  by_cases hU : U.data = #[]
  · have hv : V = 0 := by rw [← HV.out, hU]; rfl
    subst hv
    have k1 := no_text hU
    clear hU
    go_wp2_with fail
    go_ret
    exact ⟨rfl, HB.out⟩
  · have k1 := some_text hU
    have hne : U.data.toList ≠ [] := fun e => hU (by simpa using e)
    have hv := HV.out
    rw [if_neg hne] at hv
    have HV2 := Lib.hid hv
    have HAT := Lib.hid (fun w1 h => rat_any C q c U (by omega) w1 h)
    have hge := atT_ge C U.data.toList
    have hlt := atT_lt C U.data.toList
    clear hne hU hv
    obtain ⟨K, hK⟩ : ∃ K, atT C U.data.toList = K := ⟨_, rfl⟩
    rw [hK] at HAT HV2 hge hlt
    clear hK
    go_wp2_with fail
    refine (HAT.out _ ((HS.out.keep HB.out).more HB.out.size)).mono ?_
    rintro e w2 ⟨rfl, rfl⟩
    by_cases h0 : K < 0
    · have hv : V = 5 := by rw [← HV2.out, if_pos h0]
      subst hv
      go_wp2_with fail
      go_ret
      exact ⟨rfl, HB.out⟩
    · obtain ⟨k, rfl⟩ : ∃ k : Nat, K = (k : Int) := ⟨K.toNat, by omega⟩
      have hk : k < C.length := by omega
      obtain ⟨a, rfl, ha, hc⟩ := HS.out.ent hk
      obtain ⟨_, c2, _⟩ := hc w1 HB.out
      have hv := HV2.out
      rw [if_neg h0, show ((k : Int)).toNat = k from rfl] at hv
      have hd : dirT C k = C[k].2.1 := by unfold dirT; rw [List.getElem?_eq_getElem hk]; rfl
      rw [hd] at hv
      have HV3 := Lib.hid hv
      have kk : ¬ (k : Int) < 0 := h0
      have kl : (k : Int) < (C.length : Int) := hlt
      clear hc ha hv hd
      generalize C[k].2.1 = d at *
      cases d with
      | true =>
        have hv : V = 0 := by rw [← HV3.out]; rfl
        subst hv
        go_wp2_with fail
        go_ret
        exact ⟨rfl, HB.out⟩
      | false =>
        have hv : V = 7 := by rw [← HV3.out]; rfl
        subst hv
        go_wp2_with fail
        go_ret
        exact ⟨rfl, HB.out⟩
end Go.Proofs.YtefamkckoikeoaaDoor
/- Contract: the document's own 'with': a tree with one more entry, in its place. Conditions: at most 10^5 entries, paths of at most 2^20 bytes. -/
namespace Go.Proofs.YtefamkckoikeoaaDoor
open Go.RowKit
def withT : List Ent → Ent → Bool → List Ent
  | [], e, done => if done then [] else [e]
  | y :: r, e, done => (if !done && decide (0 ≤ cmpL y.pa e.pa) then [e] else []) ++ ((if y.pa == e.pa then [] else [y]) ++ withT r e (done || decide (0 ≤ cmpL y.pa e.pa)))
theorem withT_cons (y e : Ent) (r : List Ent) (done b1 b2 : Bool) (h1 : (y.pa == e.pa) = b1) (h2 : decide (0 ≤ cmpL y.pa e.pa) = b2) : withT (y :: r) e done = (if !done && b2 then [e] else []) ++ ((if b1 then [] else [y]) ++ withT r e (done || b2)) := by rw [withT, h1, h2]
set_option maxHeartbeats 16000000 in
set_option maxRecDepth 100000 in
theorem rwith_any (C : List Ent) (q : Option Addr) (c : Nat) (x : ByteArray) (d : Bool) (bv : Value) (bb : List (BitVec 8)) (hm : C.length ≤ 100000) (hx : x.size ≤ 1048576) (hn : ∀ e ∈ C, e.1.size ≤ 1048576) (w : World) (hs : Sees w w.heap.size q (rowC C)) (hE : Ents w C) (h1 : bv.oneCell' = true) :
    Calls Tryd.prog 101 #[.slice q C.length c, .agg #[.string x, .bool d, bv]] w fun e w' => (∃ v, e = .returned v ∧ TrV w' v (withT C (x, d, bv, bb) false)) ∧ Below w.heap.size w w' := by
  have HS := Lib.hid hs
  have HE := Lib.hid hE
  have HN := Lib.hid hn
  clear hs hE hn
  go_enter Tryd.func101, Tryd.ntmps101
  go_wp2_with fail
  have hbox := Has.made' w 110 #[.string x, .bool d, bv] (entC (x, d, bv, bb)) rfl
  have hgl : w.heap.size < (w.alloc (.cells #[.string x, .bool d, bv] 110)).heap.size := by simp
  have HB00 := Lib.hid ((Below.refl w.heap.size w).alloc (Nat.le_refl _) (.cells #[.string x, .bool d, bv] 110))
  generalize w.alloc (.cells #[.string x, .bool d, bv] 110) = w0 at *
  have HBX3 : Hid (∀ w', Below w0.heap.size w0 w' → w'.cell? ⟨w.heap.size, 0, none⟩ = some (.string x) ∧ w'.cell? ⟨w.heap.size, 1, none⟩ = some (.bool d) ∧ w'.cell? ⟨w.heap.size, 2, none⟩ = some bv) := Lib.hid (fun w' hb => ⟨(hb.cell hgl).trans (hbox.cellv rfl), (hb.cell hgl).trans (hbox.cellv rfl), (hb.cell hgl).trans (hbox.cellv rfl)⟩)
  have HNIL := Lib.hid (OwnE.nil w0 w0.heap.size)
  clear hbox hgl
  go_loopw [5, 6, 7] (fun v vd vi wr => ∃ (R : List Ent) (i : Nat) (dn : Bool), i ≤ C.length ∧ vi = .int .i64 i ∧ vd = .bool dn ∧ R.length ≤ 2 * i ∧ R ++ withT (C.drop i) (x, d, bv, bb) dn = withT C (x, d, bv, bb) false ∧ OwnE wr w0.heap.size v R ∧ Below w0.heap.size w0 wr) (fun _ _ vi _ => C.length - (intOf vi).toNat)
  case atStart => exact ⟨[], 0, false, by omega, rfl, rfl, Nat.le_refl _, rfl, HNIL.out, Below.refl _ _⟩
  case round =>
    rename_i wr
    obtain ⟨R, i, dn, hi, rfl, rfl, hrl, heq, hrow, hB⟩ := hrel
    have HROW := Lib.hid hrow
    have HB := Lib.hid hB
    have HEQ := Lib.hid heq
    have HRL := Lib.hid hrl
    clear hrow hB heq hrl
    by_cases hlt : i < C.length
    · obtain ⟨a, rfl, ha, hc⟩ := HS.out.ent hlt
      obtain ⟨qb, cb, hv, _, _, _⟩ := HE.out C[i] (List.getElem_mem hlt)
      have hsz := HN.out C[i] (List.getElem_mem hlt)
      have hdr : C.drop i = C[i] :: C.drop (i + 1) := List.drop_eq_getElem_cons hlt
      have kk : (i : Int) < (C.length : Int) := by omega
      have HLEN1 : Hid (R.length ≤ 1000000) := Lib.hid (by have := HRL.out; omega)
      have HLEN2 : Hid ((R ++ [(x, d, bv, bb)]).length ≤ 1000000) := Lib.hid (by have := HRL.out; rw [List.length_append, List.length_singleton]; omega)
      obtain ⟨e, he⟩ : ∃ e, C[i] = e := ⟨_, rfl⟩
      rw [he] at hc hv hsz hdr
      obtain ⟨y, dy, vy, yb⟩ := e
      have hv' : vy = .slice qb (List.length yb) cb := hv
      have hy1 : vy.oneCell' = true := by rw [hv']; rfl
      have hyz : y.size ≤ 1048576 := hsz
      have hlx : x.toList = x.data.toList := Lib.toList_data x
      have hly : y.toList = y.data.toList := Lib.toList_data y
      have HDR := Lib.hid hdr
      have HC3 : Hid (∀ w', Below w0.heap.size w0 w' → w'.cell? (a.add (i * 3)) = some (.string y) ∧ w'.cell? ⟨(a.add (i * 3)).block, (a.add (i * 3)).off + 1, none⟩ = some (.bool dy) ∧ w'.cell? ⟨(a.add (i * 3)).block, (a.add (i * 3)).off + 2, none⟩ = some vy) := Lib.hid (fun w' hb => hc w' (HB00.out.trans (hb.mono HB00.out.size)))
      have HCM := Lib.hid (fun w1 => rcmp_any y x hyz hx w1)
      clear hc ha hv hv' hsz he hdr
      cases dn with
      | true =>
        cases hxp : (y.data.toList == x.data.toList) with
        | true =>
          have HNX : Hid (R ++ withT (C.drop (i + 1)) (x, d, bv, bb) true = withT C (x, d, bv, bb) false) := Lib.hid (by rw [← HEQ.out, HDR.out, withT_cons (y, dy, vy, yb) (x, d, bv, bb) _ _ _ _ hxp rfl]; simp)
          go_wp2_with fail
          refine wp_region_org [(0, true), (1, true), (2, true), (3, true), (4, true), (5, true), (6, true), (7, true), (8, true), (9, true), (10, false), (11, true), (12, true)] (by kernel_rfl) (by kernel_rfl) (by kernel_rfl) ?_
          replace HB := Lib.hid HB.out.drew
          replace HROW := Lib.hid (World.ownsRow.drew HROW.out)
          generalize wr.drew = wd at *
          simp only [pickOrs, List.getElem?_cons_zero, List.getElem?_cons_succ]
          refine org_pure (v := ?_) (by kernel_rfl) ?_ ?_
          rotate_left
          · intro w' hv; clear hv; go_simp; try with_reducible rfl
          try simp only [Act.put, List.setIfInBounds_toArray, List.set_cons_zero, List.set_cons_succ]
          refine org_pure (v := ?_) (by kernel_rfl) ?_ ?_
          rotate_left
          · intro w' hv; clear hv; go_simp; try with_reducible rfl
          try simp only [Act.put, List.setIfInBounds_toArray, List.set_cons_zero, List.set_cons_succ]
          refine org_pure (v := ?_) (by kernel_rfl) ?_ ?_
          rotate_left
          · intro w' hv; clear hv; go_simp; try with_reducible rfl
          try simp only [Act.put, List.setIfInBounds_toArray, List.set_cons_zero, List.set_cons_succ]
          refine org_skip (by kernel_rfl) ?_
          try simp only [Act.put, List.setIfInBounds_toArray, List.set_cons_zero, List.set_cons_succ]
          refine org_skip (by kernel_rfl) ?_
          try simp only [Act.put, List.setIfInBounds_toArray, List.set_cons_zero, List.set_cons_succ]
          refine org_skip (by kernel_rfl) ?_
          try simp only [Act.put, List.setIfInBounds_toArray, List.set_cons_zero, List.set_cons_succ]
          refine org_skip (by kernel_rfl) ?_
          try simp only [Act.put, List.setIfInBounds_toArray, List.set_cons_zero, List.set_cons_succ]
          refine org_skip (by kernel_rfl) ?_
          try simp only [Act.put, List.setIfInBounds_toArray, List.set_cons_zero, List.set_cons_succ]
          refine org_skip (by kernel_rfl) ?_
          try simp only [Act.put, List.setIfInBounds_toArray, List.set_cons_zero, List.set_cons_succ]
          refine org_skip (by kernel_rfl) ?_
          try simp only [Act.put, List.setIfInBounds_toArray, List.set_cons_zero, List.set_cons_succ]
          refine org_pass (by kernel_rfl) ?_
          try simp only [Act.put, List.setIfInBounds_toArray, List.set_cons_zero, List.set_cons_succ]
          refine org_skip (by kernel_rfl) ?_
          try simp only [Act.put, List.setIfInBounds_toArray, List.set_cons_zero, List.set_cons_succ]
          refine org_pure (v := ?_) (by kernel_rfl) ?_ ?_
          rotate_left
          · intro w' hv; clear hv; go_simp; try with_reducible rfl
          try simp only [Act.put, List.setIfInBounds_toArray, List.set_cons_zero, List.set_cons_succ]
          refine org_nil ?_
          go_wp2_with fail
          refine wp_region_org [(0, true), (1, true), (2, true), (3, true), (4, true), (5, true), (6, true), (7, true)] (by kernel_rfl) (by kernel_rfl) (by kernel_rfl) ?_
          replace HB := Lib.hid HB.out.drew
          replace HROW := Lib.hid (World.ownsRow.drew HROW.out)
          generalize wd.drew = we at *
          simp only [pickOrs, List.getElem?_cons_zero, List.getElem?_cons_succ]
          refine org_pure (v := ?_) (by kernel_rfl) ?_ ?_
          rotate_left
          · intro w' hv; clear hv; go_simp; try with_reducible rfl
          try simp only [Act.put, List.setIfInBounds_toArray, List.set_cons_zero, List.set_cons_succ]
          refine org_pure (v := ?_) (by kernel_rfl) ?_ ?_
          rotate_left
          · intro w' hv; clear hv; go_simp; try with_reducible rfl
          try simp only [Act.put, List.setIfInBounds_toArray, List.set_cons_zero, List.set_cons_succ]
          refine org_pure (v := ?_) (by kernel_rfl) ?_ ?_
          rotate_left
          · intro w' hv; clear hv; go_simp; try with_reducible rfl
          try simp only [Act.put, List.setIfInBounds_toArray, List.set_cons_zero, List.set_cons_succ]
          refine org_pure (v := ?_) (by kernel_rfl) ?_ ?_
          rotate_left
          · intro w' hv; clear hv; go_simp; try with_reducible rfl
          try simp only [Act.put, List.setIfInBounds_toArray, List.set_cons_zero, List.set_cons_succ]
          refine org_pure (v := ?_) (by kernel_rfl) ?_ ?_
          rotate_left
          · intro w' hv; have cp := (HC3.out w' (HB.out.trans (Below.mono hv HB.out.size))).1; clear hv; go_simp; try with_reducible rfl
          try simp only [Act.put, List.setIfInBounds_toArray, List.set_cons_zero, List.set_cons_succ]
          refine org_pure (v := ?_) (by kernel_rfl) ?_ ?_
          rotate_left
          · intro w' hv; clear hv; go_simp; try with_reducible rfl
          try simp only [Act.put, List.setIfInBounds_toArray, List.set_cons_zero, List.set_cons_succ]
          refine org_pure (v := ?_) (by kernel_rfl) ?_ ?_
          rotate_left
          · intro w' hv; have cq := (HBX3.out w' (HB.out.trans (Below.mono hv HB.out.size))).1; clear hv; go_simp; try with_reducible rfl
          try simp only [Act.put, List.setIfInBounds_toArray, List.set_cons_zero, List.set_cons_succ]
          refine org_pure (v := ?_) (by kernel_rfl) ?_ ?_
          rotate_left
          · intro w' hv; clear hv; go_simp; try with_reducible rfl
          try simp only [Act.put, List.setIfInBounds_toArray, List.set_cons_zero, List.set_cons_succ]
          refine org_nil ?_
          go_wp2_with fail
          go_roundw
          case rel => exact ⟨R, i + 1, true, by omega, by go_num, rfl, by have := HRL.out; omega, HNX.out, HROW.out, HB.out⟩
          case measure => simp [intOf]; omega
        | false =>
          have HNX : Hid (R ++ [(y, dy, vy, yb)] ++ withT (C.drop (i + 1)) (x, d, bv, bb) true = withT C (x, d, bv, bb) false) := Lib.hid (by rw [← HEQ.out, HDR.out, withT_cons (y, dy, vy, yb) (x, d, bv, bb) _ _ _ _ hxp rfl]; simp)
          go_wp2_with fail
          refine wp_region_org [(0, true), (1, true), (2, true), (3, true), (4, true), (5, true), (6, true), (7, true), (8, true), (9, true), (10, false), (11, true), (12, true)] (by kernel_rfl) (by kernel_rfl) (by kernel_rfl) ?_
          replace HB := Lib.hid HB.out.drew
          replace HROW := Lib.hid (World.ownsRow.drew HROW.out)
          generalize wr.drew = wd at *
          simp only [pickOrs, List.getElem?_cons_zero, List.getElem?_cons_succ]
          refine org_pure (v := ?_) (by kernel_rfl) ?_ ?_
          rotate_left
          · intro w' hv; clear hv; go_simp; try with_reducible rfl
          try simp only [Act.put, List.setIfInBounds_toArray, List.set_cons_zero, List.set_cons_succ]
          refine org_pure (v := ?_) (by kernel_rfl) ?_ ?_
          rotate_left
          · intro w' hv; clear hv; go_simp; try with_reducible rfl
          try simp only [Act.put, List.setIfInBounds_toArray, List.set_cons_zero, List.set_cons_succ]
          refine org_pure (v := ?_) (by kernel_rfl) ?_ ?_
          rotate_left
          · intro w' hv; clear hv; go_simp; try with_reducible rfl
          try simp only [Act.put, List.setIfInBounds_toArray, List.set_cons_zero, List.set_cons_succ]
          refine org_skip (by kernel_rfl) ?_
          try simp only [Act.put, List.setIfInBounds_toArray, List.set_cons_zero, List.set_cons_succ]
          refine org_skip (by kernel_rfl) ?_
          try simp only [Act.put, List.setIfInBounds_toArray, List.set_cons_zero, List.set_cons_succ]
          refine org_skip (by kernel_rfl) ?_
          try simp only [Act.put, List.setIfInBounds_toArray, List.set_cons_zero, List.set_cons_succ]
          refine org_skip (by kernel_rfl) ?_
          try simp only [Act.put, List.setIfInBounds_toArray, List.set_cons_zero, List.set_cons_succ]
          refine org_skip (by kernel_rfl) ?_
          try simp only [Act.put, List.setIfInBounds_toArray, List.set_cons_zero, List.set_cons_succ]
          refine org_skip (by kernel_rfl) ?_
          try simp only [Act.put, List.setIfInBounds_toArray, List.set_cons_zero, List.set_cons_succ]
          refine org_skip (by kernel_rfl) ?_
          try simp only [Act.put, List.setIfInBounds_toArray, List.set_cons_zero, List.set_cons_succ]
          refine org_pass (by kernel_rfl) ?_
          try simp only [Act.put, List.setIfInBounds_toArray, List.set_cons_zero, List.set_cons_succ]
          refine org_skip (by kernel_rfl) ?_
          try simp only [Act.put, List.setIfInBounds_toArray, List.set_cons_zero, List.set_cons_succ]
          refine org_pure (v := ?_) (by kernel_rfl) ?_ ?_
          rotate_left
          · intro w' hv; clear hv; go_simp; try with_reducible rfl
          try simp only [Act.put, List.setIfInBounds_toArray, List.set_cons_zero, List.set_cons_succ]
          refine org_nil ?_
          go_wp2_with fail
          refine wp_region_org [(0, true), (1, true), (2, true), (3, true), (4, true), (5, true), (6, true), (7, true)] (by kernel_rfl) (by kernel_rfl) (by kernel_rfl) ?_
          replace HB := Lib.hid HB.out.drew
          replace HROW := Lib.hid (World.ownsRow.drew HROW.out)
          generalize wd.drew = we at *
          simp only [pickOrs, List.getElem?_cons_zero, List.getElem?_cons_succ]
          refine org_pure (v := ?_) (by kernel_rfl) ?_ ?_
          rotate_left
          · intro w' hv; clear hv; go_simp; try with_reducible rfl
          try simp only [Act.put, List.setIfInBounds_toArray, List.set_cons_zero, List.set_cons_succ]
          refine org_pure (v := ?_) (by kernel_rfl) ?_ ?_
          rotate_left
          · intro w' hv; clear hv; go_simp; try with_reducible rfl
          try simp only [Act.put, List.setIfInBounds_toArray, List.set_cons_zero, List.set_cons_succ]
          refine org_pure (v := ?_) (by kernel_rfl) ?_ ?_
          rotate_left
          · intro w' hv; clear hv; go_simp; try with_reducible rfl
          try simp only [Act.put, List.setIfInBounds_toArray, List.set_cons_zero, List.set_cons_succ]
          refine org_pure (v := ?_) (by kernel_rfl) ?_ ?_
          rotate_left
          · intro w' hv; clear hv; go_simp; try with_reducible rfl
          try simp only [Act.put, List.setIfInBounds_toArray, List.set_cons_zero, List.set_cons_succ]
          refine org_pure (v := ?_) (by kernel_rfl) ?_ ?_
          rotate_left
          · intro w' hv; have cp := (HC3.out w' (HB.out.trans (Below.mono hv HB.out.size))).1; clear hv; go_simp; try with_reducible rfl
          try simp only [Act.put, List.setIfInBounds_toArray, List.set_cons_zero, List.set_cons_succ]
          refine org_pure (v := ?_) (by kernel_rfl) ?_ ?_
          rotate_left
          · intro w' hv; clear hv; go_simp; try with_reducible rfl
          try simp only [Act.put, List.setIfInBounds_toArray, List.set_cons_zero, List.set_cons_succ]
          refine org_pure (v := ?_) (by kernel_rfl) ?_ ?_
          rotate_left
          · intro w' hv; have cq := (HBX3.out w' (HB.out.trans (Below.mono hv HB.out.size))).1; clear hv; go_simp; try with_reducible rfl
          try simp only [Act.put, List.setIfInBounds_toArray, List.set_cons_zero, List.set_cons_succ]
          refine org_pure (v := ?_) (by kernel_rfl) ?_ ?_
          rotate_left
          · intro w' hv; clear hv; go_simp; try with_reducible rfl
          try simp only [Act.put, List.setIfInBounds_toArray, List.set_cons_zero, List.set_cons_succ]
          refine org_nil ?_
          obtain ⟨c1, c2, c3⟩ := HC3.out we HB.out
          go_wp2_with (refine wp_addE rfl (.tmp 39) (.tmp 44) rfl (base := w0.heap.size) (World.ownsRow.alloc HROW.out (.cells #[.string y, .bool dy, vy] 110)) (by have := HB.out.size; simp; omega) rfl we.heap.size (y, dy, vy, yb) rfl (Has.made' we 110 #[.string y, .bool dy, vy] _ rfl) hy1 HLEN1.out ?_; intro v3 w3 ho3 hb3; have HROW2 := Lib.hid ho3; have HB5 := Lib.hid hb3; clear ho3 hb3 HROW)
          replace HB := Lib.hid ((HB.out.alloc HB.out.size (.cells #[.string y, .bool dy, vy] 110)).trans HB5.out)
          have HROW := HROW2
          clear HROW2 HB5
          go_roundw
          case rel => exact ⟨R ++ [(y, dy, vy, yb)], i + 1, true, by omega, by go_num, rfl, by have := HRL.out; simp only [List.length_append, List.length_cons, List.length_nil]; omega, HNX.out, HROW.out, HB.out⟩
          case measure => simp [intOf]; omega
      | false =>
        by_cases hV : 0 ≤ cmpL y.data.toList x.data.toList
        · have hdec : decide (0 ≤ cmpL y.data.toList x.data.toList) = true := decide_eq_true hV
          cases hxp : (y.data.toList == x.data.toList) with
          | true =>
            have HNX : Hid (R ++ [(x, d, bv, bb)] ++ withT (C.drop (i + 1)) (x, d, bv, bb) true = withT C (x, d, bv, bb) false) := Lib.hid (by rw [← HEQ.out, HDR.out, withT_cons (y, dy, vy, yb) (x, d, bv, bb) _ _ _ _ hxp hdec]; simp)
            clear hdec
            go_wp2_with fail
            refine wp_region_org [(0, true), (1, true), (2, true), (3, true), (4, true), (5, true), (6, true), (7, true), (8, true), (9, true), (10, false), (11, true), (12, true)] (by kernel_rfl) (by kernel_rfl) (by kernel_rfl) ?_
            replace HB := Lib.hid HB.out.drew
            replace HROW := Lib.hid (World.ownsRow.drew HROW.out)
            generalize wr.drew = wd at *
            simp only [pickOrs, List.getElem?_cons_zero, List.getElem?_cons_succ]
            refine org_pure (v := ?_) (by kernel_rfl) ?_ ?_
            rotate_left
            · intro w' hv; clear hv; go_simp; try with_reducible rfl
            try simp only [Act.put, List.setIfInBounds_toArray, List.set_cons_zero, List.set_cons_succ]
            refine org_pure (v := ?_) (by kernel_rfl) ?_ ?_
            rotate_left
            · intro w' hv; clear hv; go_simp; try with_reducible rfl
            try simp only [Act.put, List.setIfInBounds_toArray, List.set_cons_zero, List.set_cons_succ]
            refine org_pure (v := ?_) (by kernel_rfl) ?_ ?_
            rotate_left
            · intro w' hv; clear hv; go_simp; try with_reducible rfl
            try simp only [Act.put, List.setIfInBounds_toArray, List.set_cons_zero, List.set_cons_succ]
            refine org_pure (v := ?_) (by kernel_rfl) ?_ ?_
            rotate_left
            · intro w' hv; clear hv; go_simp; try with_reducible rfl
            try simp only [Act.put, List.setIfInBounds_toArray, List.set_cons_zero, List.set_cons_succ]
            refine org_pure (v := ?_) (by kernel_rfl) ?_ ?_
            rotate_left
            · intro w' hv; clear hv; go_simp; try with_reducible rfl
            try simp only [Act.put, List.setIfInBounds_toArray, List.set_cons_zero, List.set_cons_succ]
            refine org_pure (v := ?_) (by kernel_rfl) ?_ ?_
            rotate_left
            · intro w' hv; clear hv; go_simp; try with_reducible rfl
            try simp only [Act.put, List.setIfInBounds_toArray, List.set_cons_zero, List.set_cons_succ]
            refine org_pure (v := ?_) (by kernel_rfl) ?_ ?_
            rotate_left
            · intro w' hv; clear hv; go_simp; try with_reducible rfl
            try simp only [Act.put, List.setIfInBounds_toArray, List.set_cons_zero, List.set_cons_succ]
            refine org_pure (v := ?_) (by kernel_rfl) ?_ ?_
            rotate_left
            · intro w' hv; have cp := (HC3.out w' (HB.out.trans (Below.mono hv HB.out.size))).1; clear hv; go_simp; try with_reducible rfl
            try simp only [Act.put, List.setIfInBounds_toArray, List.set_cons_zero, List.set_cons_succ]
            refine org_pure (v := ?_) (by kernel_rfl) ?_ ?_
            rotate_left
            · intro w' hv; clear hv; go_simp; try with_reducible rfl
            try simp only [Act.put, List.setIfInBounds_toArray, List.set_cons_zero, List.set_cons_succ]
            refine org_pure (v := ?_) (by kernel_rfl) ?_ ?_
            rotate_left
            · intro w' hv; have cq := (HBX3.out w' (HB.out.trans (Below.mono hv HB.out.size))).1; clear hv; go_simp; try with_reducible rfl
            try simp only [Act.put, List.setIfInBounds_toArray, List.set_cons_zero, List.set_cons_succ]
            refine org_step (by kernel_rfl) (fun K hK => ?_)
            go_wp2_with fail
            refine (HCM.out _).mono ?_
            rintro e wx ⟨rfl, hb⟩
            have HE2 := Lib.hid hb
            replace HROW := Lib.hid (own_below3 HROW.out hb)
            replace HB := Lib.hid (HB.out.trans (hb.mono HB.out.size))
            clear hb
            refine hK _ _ ⟨HE2.out, ?_⟩
            clear hK HE2
            try simp only [Act.put, List.setIfInBounds_toArray, List.set_cons_zero, List.set_cons_succ]
            refine org_pure (v := ?_) (by kernel_rfl) ?_ ?_
            rotate_left
            · intro w' hv; clear hv; go_simp; try with_reducible rfl
            try simp only [Act.put, List.setIfInBounds_toArray, List.set_cons_zero, List.set_cons_succ]
            refine org_pure (v := ?_) (by kernel_rfl) ?_ ?_
            rotate_left
            · intro w' hv; clear hv; go_simp; try with_reducible rfl
            try simp only [Act.put, List.setIfInBounds_toArray, List.set_cons_zero, List.set_cons_succ]
            refine org_nil ?_
            obtain ⟨b1, b2, b3⟩ := HBX3.out wx HB.out
            go_wp2_with (refine wp_addE rfl (.tmp 27) (.tmp 29) rfl (base := w0.heap.size) (World.ownsRow.alloc HROW.out (.cells #[.string x, .bool d, bv] 110)) (by have := HB.out.size; simp; omega) rfl wx.heap.size (x, d, bv, bb) rfl (Has.made' wx 110 #[.string x, .bool d, bv] _ rfl) h1 HLEN1.out ?_; intro v3 w3 ho3 hb3; have HROW2 := Lib.hid ho3; have HB5 := Lib.hid hb3; clear ho3 hb3 HROW)
            replace HB := Lib.hid ((HB.out.alloc HB.out.size (.cells #[.string x, .bool d, bv] 110)).trans HB5.out)
            have HROW := HROW2
            clear HROW2 HB5
            clear b1 b2 b3
            refine wp_region_org [(0, true), (1, true), (2, true), (3, true), (4, true), (5, true), (6, true), (7, true)] (by kernel_rfl) (by kernel_rfl) (by kernel_rfl) ?_
            replace HB := Lib.hid HB.out.drew
            replace HROW := Lib.hid (World.ownsRow.drew HROW.out)
            generalize w3.drew = we at *
            simp only [pickOrs, List.getElem?_cons_zero, List.getElem?_cons_succ]
            refine org_pure (v := ?_) (by kernel_rfl) ?_ ?_
            rotate_left
            · intro w' hv; clear hv; go_simp; try with_reducible rfl
            try simp only [Act.put, List.setIfInBounds_toArray, List.set_cons_zero, List.set_cons_succ]
            refine org_pure (v := ?_) (by kernel_rfl) ?_ ?_
            rotate_left
            · intro w' hv; clear hv; go_simp; try with_reducible rfl
            try simp only [Act.put, List.setIfInBounds_toArray, List.set_cons_zero, List.set_cons_succ]
            refine org_pure (v := ?_) (by kernel_rfl) ?_ ?_
            rotate_left
            · intro w' hv; clear hv; go_simp; try with_reducible rfl
            try simp only [Act.put, List.setIfInBounds_toArray, List.set_cons_zero, List.set_cons_succ]
            refine org_pure (v := ?_) (by kernel_rfl) ?_ ?_
            rotate_left
            · intro w' hv; clear hv; go_simp; try with_reducible rfl
            try simp only [Act.put, List.setIfInBounds_toArray, List.set_cons_zero, List.set_cons_succ]
            refine org_pure (v := ?_) (by kernel_rfl) ?_ ?_
            rotate_left
            · intro w' hv; have cp := (HC3.out w' (HB.out.trans (Below.mono hv HB.out.size))).1; clear hv; go_simp; try with_reducible rfl
            try simp only [Act.put, List.setIfInBounds_toArray, List.set_cons_zero, List.set_cons_succ]
            refine org_pure (v := ?_) (by kernel_rfl) ?_ ?_
            rotate_left
            · intro w' hv; clear hv; go_simp; try with_reducible rfl
            try simp only [Act.put, List.setIfInBounds_toArray, List.set_cons_zero, List.set_cons_succ]
            refine org_pure (v := ?_) (by kernel_rfl) ?_ ?_
            rotate_left
            · intro w' hv; have cq := (HBX3.out w' (HB.out.trans (Below.mono hv HB.out.size))).1; clear hv; go_simp; try with_reducible rfl
            try simp only [Act.put, List.setIfInBounds_toArray, List.set_cons_zero, List.set_cons_succ]
            refine org_pure (v := ?_) (by kernel_rfl) ?_ ?_
            rotate_left
            · intro w' hv; clear hv; go_simp; try with_reducible rfl
            try simp only [Act.put, List.setIfInBounds_toArray, List.set_cons_zero, List.set_cons_succ]
            refine org_nil ?_
            go_wp2_with fail
            go_roundw
            case rel => exact ⟨R ++ [(x, d, bv, bb)], i + 1, true, by omega, by go_num, rfl, by have := HRL.out; simp only [List.length_append, List.length_cons, List.length_nil]; omega, HNX.out, HROW.out, HB.out⟩
            case measure => simp [intOf]; omega
          | false =>
            have HNX : Hid (R ++ [(x, d, bv, bb)] ++ [(y, dy, vy, yb)] ++ withT (C.drop (i + 1)) (x, d, bv, bb) true = withT C (x, d, bv, bb) false) := Lib.hid (by rw [← HEQ.out, HDR.out, withT_cons (y, dy, vy, yb) (x, d, bv, bb) _ _ _ _ hxp hdec]; simp)
            clear hdec
            go_wp2_with fail
            refine wp_region_org [(0, true), (1, true), (2, true), (3, true), (4, true), (5, true), (6, true), (7, true), (8, true), (9, true), (10, false), (11, true), (12, true)] (by kernel_rfl) (by kernel_rfl) (by kernel_rfl) ?_
            replace HB := Lib.hid HB.out.drew
            replace HROW := Lib.hid (World.ownsRow.drew HROW.out)
            generalize wr.drew = wd at *
            simp only [pickOrs, List.getElem?_cons_zero, List.getElem?_cons_succ]
            refine org_pure (v := ?_) (by kernel_rfl) ?_ ?_
            rotate_left
            · intro w' hv; clear hv; go_simp; try with_reducible rfl
            try simp only [Act.put, List.setIfInBounds_toArray, List.set_cons_zero, List.set_cons_succ]
            refine org_pure (v := ?_) (by kernel_rfl) ?_ ?_
            rotate_left
            · intro w' hv; clear hv; go_simp; try with_reducible rfl
            try simp only [Act.put, List.setIfInBounds_toArray, List.set_cons_zero, List.set_cons_succ]
            refine org_pure (v := ?_) (by kernel_rfl) ?_ ?_
            rotate_left
            · intro w' hv; clear hv; go_simp; try with_reducible rfl
            try simp only [Act.put, List.setIfInBounds_toArray, List.set_cons_zero, List.set_cons_succ]
            refine org_pure (v := ?_) (by kernel_rfl) ?_ ?_
            rotate_left
            · intro w' hv; clear hv; go_simp; try with_reducible rfl
            try simp only [Act.put, List.setIfInBounds_toArray, List.set_cons_zero, List.set_cons_succ]
            refine org_pure (v := ?_) (by kernel_rfl) ?_ ?_
            rotate_left
            · intro w' hv; clear hv; go_simp; try with_reducible rfl
            try simp only [Act.put, List.setIfInBounds_toArray, List.set_cons_zero, List.set_cons_succ]
            refine org_pure (v := ?_) (by kernel_rfl) ?_ ?_
            rotate_left
            · intro w' hv; clear hv; go_simp; try with_reducible rfl
            try simp only [Act.put, List.setIfInBounds_toArray, List.set_cons_zero, List.set_cons_succ]
            refine org_pure (v := ?_) (by kernel_rfl) ?_ ?_
            rotate_left
            · intro w' hv; clear hv; go_simp; try with_reducible rfl
            try simp only [Act.put, List.setIfInBounds_toArray, List.set_cons_zero, List.set_cons_succ]
            refine org_pure (v := ?_) (by kernel_rfl) ?_ ?_
            rotate_left
            · intro w' hv; have cp := (HC3.out w' (HB.out.trans (Below.mono hv HB.out.size))).1; clear hv; go_simp; try with_reducible rfl
            try simp only [Act.put, List.setIfInBounds_toArray, List.set_cons_zero, List.set_cons_succ]
            refine org_pure (v := ?_) (by kernel_rfl) ?_ ?_
            rotate_left
            · intro w' hv; clear hv; go_simp; try with_reducible rfl
            try simp only [Act.put, List.setIfInBounds_toArray, List.set_cons_zero, List.set_cons_succ]
            refine org_pure (v := ?_) (by kernel_rfl) ?_ ?_
            rotate_left
            · intro w' hv; have cq := (HBX3.out w' (HB.out.trans (Below.mono hv HB.out.size))).1; clear hv; go_simp; try with_reducible rfl
            try simp only [Act.put, List.setIfInBounds_toArray, List.set_cons_zero, List.set_cons_succ]
            refine org_step (by kernel_rfl) (fun K hK => ?_)
            go_wp2_with fail
            refine (HCM.out _).mono ?_
            rintro e wx ⟨rfl, hb⟩
            have HE2 := Lib.hid hb
            replace HROW := Lib.hid (own_below3 HROW.out hb)
            replace HB := Lib.hid (HB.out.trans (hb.mono HB.out.size))
            clear hb
            refine hK _ _ ⟨HE2.out, ?_⟩
            clear hK HE2
            try simp only [Act.put, List.setIfInBounds_toArray, List.set_cons_zero, List.set_cons_succ]
            refine org_pure (v := ?_) (by kernel_rfl) ?_ ?_
            rotate_left
            · intro w' hv; clear hv; go_simp; try with_reducible rfl
            try simp only [Act.put, List.setIfInBounds_toArray, List.set_cons_zero, List.set_cons_succ]
            refine org_pure (v := ?_) (by kernel_rfl) ?_ ?_
            rotate_left
            · intro w' hv; clear hv; go_simp; try with_reducible rfl
            try simp only [Act.put, List.setIfInBounds_toArray, List.set_cons_zero, List.set_cons_succ]
            refine org_nil ?_
            obtain ⟨b1, b2, b3⟩ := HBX3.out wx HB.out
            go_wp2_with (refine wp_addE rfl (.tmp 27) (.tmp 29) rfl (base := w0.heap.size) (World.ownsRow.alloc HROW.out (.cells #[.string x, .bool d, bv] 110)) (by have := HB.out.size; simp; omega) rfl wx.heap.size (x, d, bv, bb) rfl (Has.made' wx 110 #[.string x, .bool d, bv] _ rfl) h1 HLEN1.out ?_; intro v3 w3 ho3 hb3; have HROW2 := Lib.hid ho3; have HB5 := Lib.hid hb3; clear ho3 hb3 HROW)
            replace HB := Lib.hid ((HB.out.alloc HB.out.size (.cells #[.string x, .bool d, bv] 110)).trans HB5.out)
            have HROW := HROW2
            clear HROW2 HB5
            clear b1 b2 b3
            refine wp_region_org [(0, true), (1, true), (2, true), (3, true), (4, true), (5, true), (6, true), (7, true)] (by kernel_rfl) (by kernel_rfl) (by kernel_rfl) ?_
            replace HB := Lib.hid HB.out.drew
            replace HROW := Lib.hid (World.ownsRow.drew HROW.out)
            generalize w3.drew = we at *
            simp only [pickOrs, List.getElem?_cons_zero, List.getElem?_cons_succ]
            refine org_pure (v := ?_) (by kernel_rfl) ?_ ?_
            rotate_left
            · intro w' hv; clear hv; go_simp; try with_reducible rfl
            try simp only [Act.put, List.setIfInBounds_toArray, List.set_cons_zero, List.set_cons_succ]
            refine org_pure (v := ?_) (by kernel_rfl) ?_ ?_
            rotate_left
            · intro w' hv; clear hv; go_simp; try with_reducible rfl
            try simp only [Act.put, List.setIfInBounds_toArray, List.set_cons_zero, List.set_cons_succ]
            refine org_pure (v := ?_) (by kernel_rfl) ?_ ?_
            rotate_left
            · intro w' hv; clear hv; go_simp; try with_reducible rfl
            try simp only [Act.put, List.setIfInBounds_toArray, List.set_cons_zero, List.set_cons_succ]
            refine org_pure (v := ?_) (by kernel_rfl) ?_ ?_
            rotate_left
            · intro w' hv; clear hv; go_simp; try with_reducible rfl
            try simp only [Act.put, List.setIfInBounds_toArray, List.set_cons_zero, List.set_cons_succ]
            refine org_pure (v := ?_) (by kernel_rfl) ?_ ?_
            rotate_left
            · intro w' hv; have cp := (HC3.out w' (HB.out.trans (Below.mono hv HB.out.size))).1; clear hv; go_simp; try with_reducible rfl
            try simp only [Act.put, List.setIfInBounds_toArray, List.set_cons_zero, List.set_cons_succ]
            refine org_pure (v := ?_) (by kernel_rfl) ?_ ?_
            rotate_left
            · intro w' hv; clear hv; go_simp; try with_reducible rfl
            try simp only [Act.put, List.setIfInBounds_toArray, List.set_cons_zero, List.set_cons_succ]
            refine org_pure (v := ?_) (by kernel_rfl) ?_ ?_
            rotate_left
            · intro w' hv; have cq := (HBX3.out w' (HB.out.trans (Below.mono hv HB.out.size))).1; clear hv; go_simp; try with_reducible rfl
            try simp only [Act.put, List.setIfInBounds_toArray, List.set_cons_zero, List.set_cons_succ]
            refine org_pure (v := ?_) (by kernel_rfl) ?_ ?_
            rotate_left
            · intro w' hv; clear hv; go_simp; try with_reducible rfl
            try simp only [Act.put, List.setIfInBounds_toArray, List.set_cons_zero, List.set_cons_succ]
            refine org_nil ?_
            obtain ⟨c1, c2, c3⟩ := HC3.out we HB.out
            go_wp2_with (refine wp_addE rfl (.tmp 39) (.tmp 44) rfl (base := w0.heap.size) (World.ownsRow.alloc HROW.out (.cells #[.string y, .bool dy, vy] 110)) (by have := HB.out.size; simp; omega) rfl we.heap.size (y, dy, vy, yb) rfl (Has.made' we 110 #[.string y, .bool dy, vy] _ rfl) hy1 HLEN2.out ?_; intro v4 w4 ho3 hb3; have HROW2 := Lib.hid ho3; have HB5 := Lib.hid hb3; clear ho3 hb3 HROW)
            replace HB := Lib.hid ((HB.out.alloc HB.out.size (.cells #[.string y, .bool dy, vy] 110)).trans HB5.out)
            have HROW := HROW2
            clear HROW2 HB5
            go_roundw
            case rel => exact ⟨R ++ [(x, d, bv, bb)] ++ [(y, dy, vy, yb)], i + 1, true, by omega, by go_num, rfl, by have := HRL.out; simp only [List.length_append, List.length_cons, List.length_nil]; omega, HNX.out, HROW.out, HB.out⟩
            case measure => simp [intOf]; omega
        · have hdec : decide (0 ≤ cmpL y.data.toList x.data.toList) = false := decide_eq_false hV
          have hxp : (y.data.toList == x.data.toList) = false := by
            rw [beq_eq_false_iff_ne]
            intro e
            rw [e, cmpL_self] at hV
            exact hV (Int.le_refl _)
          have HNX : Hid (R ++ [(y, dy, vy, yb)] ++ withT (C.drop (i + 1)) (x, d, bv, bb) false = withT C (x, d, bv, bb) false) := Lib.hid (by rw [← HEQ.out, HDR.out, withT_cons (y, dy, vy, yb) (x, d, bv, bb) _ _ _ _ hxp hdec]; simp)
          clear hdec
          go_wp2_with fail
          refine wp_region_org [(0, true), (1, true), (2, true), (3, true), (4, true), (5, true), (6, true), (7, true), (8, true), (9, true), (10, false), (11, true), (12, true)] (by kernel_rfl) (by kernel_rfl) (by kernel_rfl) ?_
          replace HB := Lib.hid HB.out.drew
          replace HROW := Lib.hid (World.ownsRow.drew HROW.out)
          generalize wr.drew = wd at *
          simp only [pickOrs, List.getElem?_cons_zero, List.getElem?_cons_succ]
          refine org_pure (v := ?_) (by kernel_rfl) ?_ ?_
          rotate_left
          · intro w' hv; clear hv; go_simp; try with_reducible rfl
          try simp only [Act.put, List.setIfInBounds_toArray, List.set_cons_zero, List.set_cons_succ]
          refine org_pure (v := ?_) (by kernel_rfl) ?_ ?_
          rotate_left
          · intro w' hv; clear hv; go_simp; try with_reducible rfl
          try simp only [Act.put, List.setIfInBounds_toArray, List.set_cons_zero, List.set_cons_succ]
          refine org_pure (v := ?_) (by kernel_rfl) ?_ ?_
          rotate_left
          · intro w' hv; clear hv; go_simp; try with_reducible rfl
          try simp only [Act.put, List.setIfInBounds_toArray, List.set_cons_zero, List.set_cons_succ]
          refine org_pure (v := ?_) (by kernel_rfl) ?_ ?_
          rotate_left
          · intro w' hv; clear hv; go_simp; try with_reducible rfl
          try simp only [Act.put, List.setIfInBounds_toArray, List.set_cons_zero, List.set_cons_succ]
          refine org_pure (v := ?_) (by kernel_rfl) ?_ ?_
          rotate_left
          · intro w' hv; clear hv; go_simp; try with_reducible rfl
          try simp only [Act.put, List.setIfInBounds_toArray, List.set_cons_zero, List.set_cons_succ]
          refine org_pure (v := ?_) (by kernel_rfl) ?_ ?_
          rotate_left
          · intro w' hv; clear hv; go_simp; try with_reducible rfl
          try simp only [Act.put, List.setIfInBounds_toArray, List.set_cons_zero, List.set_cons_succ]
          refine org_pure (v := ?_) (by kernel_rfl) ?_ ?_
          rotate_left
          · intro w' hv; clear hv; go_simp; try with_reducible rfl
          try simp only [Act.put, List.setIfInBounds_toArray, List.set_cons_zero, List.set_cons_succ]
          refine org_pure (v := ?_) (by kernel_rfl) ?_ ?_
          rotate_left
          · intro w' hv; have cp := (HC3.out w' (HB.out.trans (Below.mono hv HB.out.size))).1; clear hv; go_simp; try with_reducible rfl
          try simp only [Act.put, List.setIfInBounds_toArray, List.set_cons_zero, List.set_cons_succ]
          refine org_pure (v := ?_) (by kernel_rfl) ?_ ?_
          rotate_left
          · intro w' hv; clear hv; go_simp; try with_reducible rfl
          try simp only [Act.put, List.setIfInBounds_toArray, List.set_cons_zero, List.set_cons_succ]
          refine org_pure (v := ?_) (by kernel_rfl) ?_ ?_
          rotate_left
          · intro w' hv; have cq := (HBX3.out w' (HB.out.trans (Below.mono hv HB.out.size))).1; clear hv; go_simp; try with_reducible rfl
          try simp only [Act.put, List.setIfInBounds_toArray, List.set_cons_zero, List.set_cons_succ]
          refine org_step (by kernel_rfl) (fun K hK => ?_)
          go_wp2_with fail
          refine (HCM.out _).mono ?_
          rintro e wx ⟨rfl, hb⟩
          have HE2 := Lib.hid hb
          replace HROW := Lib.hid (own_below3 HROW.out hb)
          replace HB := Lib.hid (HB.out.trans (hb.mono HB.out.size))
          clear hb
          refine hK _ _ ⟨HE2.out, ?_⟩
          clear hK HE2
          try simp only [Act.put, List.setIfInBounds_toArray, List.set_cons_zero, List.set_cons_succ]
          refine org_pure (v := ?_) (by kernel_rfl) ?_ ?_
          rotate_left
          · intro w' hv; clear hv; go_simp; try with_reducible rfl
          try simp only [Act.put, List.setIfInBounds_toArray, List.set_cons_zero, List.set_cons_succ]
          refine org_pure (v := ?_) (by kernel_rfl) ?_ ?_
          rotate_left
          · intro w' hv; clear hv; go_simp; try with_reducible rfl
          try simp only [Act.put, List.setIfInBounds_toArray, List.set_cons_zero, List.set_cons_succ]
          refine org_nil ?_
          go_wp2_with fail
          refine wp_region_org [(0, true), (1, true), (2, true), (3, true), (4, true), (5, true), (6, true), (7, true)] (by kernel_rfl) (by kernel_rfl) (by kernel_rfl) ?_
          replace HB := Lib.hid HB.out.drew
          replace HROW := Lib.hid (World.ownsRow.drew HROW.out)
          generalize wx.drew = we at *
          simp only [pickOrs, List.getElem?_cons_zero, List.getElem?_cons_succ]
          refine org_pure (v := ?_) (by kernel_rfl) ?_ ?_
          rotate_left
          · intro w' hv; clear hv; go_simp; try with_reducible rfl
          try simp only [Act.put, List.setIfInBounds_toArray, List.set_cons_zero, List.set_cons_succ]
          refine org_pure (v := ?_) (by kernel_rfl) ?_ ?_
          rotate_left
          · intro w' hv; clear hv; go_simp; try with_reducible rfl
          try simp only [Act.put, List.setIfInBounds_toArray, List.set_cons_zero, List.set_cons_succ]
          refine org_pure (v := ?_) (by kernel_rfl) ?_ ?_
          rotate_left
          · intro w' hv; clear hv; go_simp; try with_reducible rfl
          try simp only [Act.put, List.setIfInBounds_toArray, List.set_cons_zero, List.set_cons_succ]
          refine org_pure (v := ?_) (by kernel_rfl) ?_ ?_
          rotate_left
          · intro w' hv; clear hv; go_simp; try with_reducible rfl
          try simp only [Act.put, List.setIfInBounds_toArray, List.set_cons_zero, List.set_cons_succ]
          refine org_pure (v := ?_) (by kernel_rfl) ?_ ?_
          rotate_left
          · intro w' hv; have cp := (HC3.out w' (HB.out.trans (Below.mono hv HB.out.size))).1; clear hv; go_simp; try with_reducible rfl
          try simp only [Act.put, List.setIfInBounds_toArray, List.set_cons_zero, List.set_cons_succ]
          refine org_pure (v := ?_) (by kernel_rfl) ?_ ?_
          rotate_left
          · intro w' hv; clear hv; go_simp; try with_reducible rfl
          try simp only [Act.put, List.setIfInBounds_toArray, List.set_cons_zero, List.set_cons_succ]
          refine org_pure (v := ?_) (by kernel_rfl) ?_ ?_
          rotate_left
          · intro w' hv; have cq := (HBX3.out w' (HB.out.trans (Below.mono hv HB.out.size))).1; clear hv; go_simp; try with_reducible rfl
          try simp only [Act.put, List.setIfInBounds_toArray, List.set_cons_zero, List.set_cons_succ]
          refine org_pure (v := ?_) (by kernel_rfl) ?_ ?_
          rotate_left
          · intro w' hv; clear hv; go_simp; try with_reducible rfl
          try simp only [Act.put, List.setIfInBounds_toArray, List.set_cons_zero, List.set_cons_succ]
          refine org_nil ?_
          obtain ⟨c1, c2, c3⟩ := HC3.out we HB.out
          go_wp2_with (refine wp_addE rfl (.tmp 39) (.tmp 44) rfl (base := w0.heap.size) (World.ownsRow.alloc HROW.out (.cells #[.string y, .bool dy, vy] 110)) (by have := HB.out.size; simp; omega) rfl we.heap.size (y, dy, vy, yb) rfl (Has.made' we 110 #[.string y, .bool dy, vy] _ rfl) hy1 HLEN1.out ?_; intro v3 w3 ho3 hb3; have HROW2 := Lib.hid ho3; have HB5 := Lib.hid hb3; clear ho3 hb3 HROW)
          replace HB := Lib.hid ((HB.out.alloc HB.out.size (.cells #[.string y, .bool dy, vy] 110)).trans HB5.out)
          have HROW := HROW2
          clear HROW2 HB5
          go_roundw
          case rel => exact ⟨R ++ [(y, dy, vy, yb)], i + 1, false, by omega, by go_num, rfl, by have := HRL.out; simp only [List.length_append, List.length_cons, List.length_nil]; omega, HNX.out, HROW.out, HB.out⟩
          case measure => simp [intOf]; omega
    · have hil : i = C.length := by omega
      subst hil
      have k0 : ¬ (C.length : Int) < (C.length : Int) := by omega
      have HLEN1 : Hid (R.length ≤ 1000000) := Lib.hid (by have := HRL.out; omega)
      have heq := HEQ.out
      rw [List.drop_length] at heq
      cases dn with
      | true =>
        have hr : R = withT C (x, d, bv, bb) false := by rw [← heq]; simp [withT]
        subst hr
        have HT := Lib.hid (OwnE.tr HROW.out)
        clear hlt HROW heq HEQ
        go_wp2_with fail
        go_ret
        first | exact ⟨⟨_, rfl, HT.out⟩, HB00.out.trans (HB.out.mono HB00.out.size)⟩ | exact ⟨HT.out, HB00.out.trans (HB.out.mono HB00.out.size)⟩
      | false =>
        have hr : R ++ [(x, d, bv, bb)] = withT C (x, d, bv, bb) false := by rw [← heq]; simp [withT]
        have HR := Lib.hid hr
        clear hlt heq HEQ hr
        obtain ⟨b1, b2, b3⟩ := HBX3.out wr HB.out
        go_wp2_with (refine wp_addE rfl (.tmp 48) (.tmp 50) rfl (base := w0.heap.size) (World.ownsRow.alloc HROW.out (.cells #[.string x, .bool d, bv] 110)) (by have := HB.out.size; simp; omega) rfl wr.heap.size (x, d, bv, bb) rfl (Has.made' wr 110 #[.string x, .bool d, bv] _ rfl) h1 HLEN1.out ?_; intro v3 w3 ho3 hb3; have HROW2 := Lib.hid ho3; have HB5 := Lib.hid hb3; clear ho3 hb3 HROW)
        replace HB := Lib.hid ((HB.out.alloc HB.out.size (.cells #[.string x, .bool d, bv] 110)).trans HB5.out)
        have HROW := HROW2
        clear HROW2 HB5
        have HT := Lib.hid (OwnE.tr HROW.out)
        rw [HR.out] at HT
        clear HROW
        go_ret
        first | exact ⟨⟨_, rfl, HT.out⟩, HB00.out.trans (HB.out.mono HB00.out.size)⟩ | exact ⟨HT.out, HB00.out.trans (HB.out.mono HB00.out.size)⟩
end Go.Proofs.YtefamkckoikeoaaDoor
