/- Plain laws of paths: names parted at a slash, what may be a path, what it is in, its last name. Of no program. No condition. -/
import Derived.Lib.Bytealg
import Derived.Lib.LastIndexByte
import Derived.Lib.Small
namespace Go.Proofs.YtflgncagoiigfaaDoor
abbrev Tx := List UInt8
/-- A path's names: what stands between the slashes. -/
def nms : Tx → List Tx
  | [] => [[]]
  | c :: r => if c = 47 then [] :: nms r else match nms r with
    | [] => [[c]]
    | n :: ns => (c :: n) :: ns
/-- Names, put together again. -/
def jn : List Tx → Tx
  | [] => []
  | [n] => n
  | n :: m :: r => n ++ 47 :: jn (m :: r)
def okByte (c : UInt8) : Bool := (decide (97 ≤ c.toNat) && decide (c.toNat ≤ 122)) || (decide (48 ≤ c.toNat) && decide (c.toNat ≤ 57)) || c == 46 || c == 45 || c == 95
def okName (n : Tx) : Bool := !(n == [] || decide (16 < n.length) || n == [46] || n == [46, 46]) && n.all okByte
def okPath (p : Tx) : Bool := decide ((nms p).length ≤ 4) && (nms p).all okName
theorem nms_ne (p : Tx) : nms p ≠ [] := by
  cases p with
  | nil => simp [nms]
  | cons c r =>
    unfold nms
    split
    · simp
    · split <;> simp
theorem nms_pos (p : Tx) : 0 < (nms p).length := List.length_pos_iff.2 (nms_ne p)
theorem nms_sep (p q : Tx) : nms (p ++ 47 :: q) = nms p ++ nms q := by
  induction p with
  | nil => simp [nms]
  | cons c r ih =>
    rw [List.cons_append]
    by_cases h : c = 47
    · simp [nms, h, ih]
    · rw [nms, if_neg h, nms, if_neg h, ih]
      cases hr : nms r with
      | nil => exact absurd hr (nms_ne r)
      | cons n ns => rfl
theorem nms_plain {p : Tx} (h : 47 ∉ p) : nms p = [p] := by
  induction p with
  | nil => rfl
  | cons c r ih =>
    have h1 : c ≠ 47 := fun e => h (by simp [e])
    have h2 : 47 ∉ r := fun e => h (List.mem_cons_of_mem _ e)
    rw [nms, if_neg h1, ih h2]
theorem nms_no (p : Tx) : ∀ n ∈ nms p, 47 ∉ n := by
  induction p with
  | nil => simp [nms]
  | cons c r ih =>
    rw [nms]
    by_cases h : c = 47
    · rw [if_pos h]
      intro n hn
      rcases List.mem_cons.1 hn with rfl | hn
      · simp
      · exact ih n hn
    · rw [if_neg h]
      cases hr : nms r with
      | nil => exact absurd hr (nms_ne r)
      | cons m ms =>
        rw [hr] at ih
        intro n hn
        rcases List.mem_cons.1 hn with rfl | hn
        · intro e
          rcases List.mem_cons.1 e with e | e
          · exact h e.symm
          · exact ih m (List.mem_cons_self ..) e
        · exact ih n (List.mem_cons_of_mem _ hn)
theorem jn_cons (n : Tx) {l : List Tx} (h : l ≠ []) : jn (n :: l) = n ++ 47 :: jn l := by
  cases l with
  | nil => exact absurd rfl h
  | cons m r => rfl
theorem jn_nms (p : Tx) : jn (nms p) = p := by
  induction p with
  | nil => rfl
  | cons c r ih =>
    rw [nms]
    by_cases h : c = 47
    · rw [if_pos h, jn_cons _ (nms_ne r), ih, h]; rfl
    · rw [if_neg h]
      cases hr : nms r with
      | nil => exact absurd hr (nms_ne r)
      | cons m ms =>
        rw [hr] at ih
        rw [← ih]
        cases ms with
        | nil => rfl
        | cons k ks => rfl
theorem jn_snoc {l : List Tx} (h : l ≠ []) (b : Tx) : jn (l ++ [b]) = jn l ++ 47 :: b := by
  induction l with
  | nil => exact absurd rfl h
  | cons n r ih =>
    cases r with
    | nil => rfl
    | cons m s =>
      have e : n :: m :: s ++ [b] = n :: (m :: s ++ [b]) := rfl
      rw [e, jn_cons n (l := m :: s ++ [b]) (by simp), ih (by simp), jn_cons n (l := m :: s) (by simp), List.append_assoc, List.cons_append]
theorem nms_jn {l : List Tx} (h : l ≠ []) (hn : ∀ n ∈ l, 47 ∉ n) : nms (jn l) = l := by
  induction l with
  | nil => exact absurd rfl h
  | cons n r ih =>
    cases r with
    | nil => exact nms_plain (hn n (by simp))
    | cons m s =>
      rw [jn_cons _ (by simp), nms_sep, nms_plain (hn n (by simp)), ih (by simp) (fun k hk => hn k (List.mem_cons_of_mem _ hk))]
      rfl
theorem nms_count (p : Tx) : (nms p).length = p.count 47 + 1 := by
  induction p with
  | nil => rfl
  | cons c r ih =>
    rw [nms]
    by_cases h : c = 47
    · rw [if_pos h, h]; simp [ih]
    · rw [if_neg h, List.count_cons_of_ne (by simpa using h)]
      cases hr : nms r with
      | nil => exact absurd hr (nms_ne r)
      | cons m ms => rw [hr] at ih; simpa using ih
/-! ### the first slash, the last slash -/
theorem idx_cases (s : Tx) : (Lib.indexByte s 47 = -1 ∧ 47 ∉ s) ∨ ∃ i : Nat, i < s.length ∧ Lib.indexByte s 47 = i ∧ s = s.take i ++ 47 :: s.drop (i + 1) ∧ 47 ∉ s.take i := by
  induction s with
  | nil => exact .inl ⟨rfl, by simp⟩
  | cons b l ih =>
    unfold Lib.indexByte
    by_cases hb : b = 47
    · exact .inr ⟨0, by simp, by simp [hb], by simp [hb], by simp⟩
    · have hb' : (b == 47) = false := by simpa using hb
      rcases ih with ⟨h1, h2⟩ | ⟨i, h0, h1, h2, h3⟩
      · exact .inl ⟨by simp [hb', h1], by simp [h2, Ne.symm hb]⟩
      · refine .inr ⟨i + 1, by simpa using h0, ?_, ?_, ?_⟩
        · rw [hb', h1]
          have : ((i : Int) == -1) = false := by rw [beq_eq_false_iff_ne]; omega
          simp [this]
        · simpa using h2
        · simp [h3, Ne.symm hb]
theorem nms_hit {s : Tx} {i : Nat} (h2 : s = s.take i ++ 47 :: s.drop (i + 1)) (h3 : 47 ∉ s.take i) : nms s = s.take i :: nms (s.drop (i + 1)) := by
  conv => lhs; rw [h2]
  rw [nms_sep, nms_plain h3]; rfl
theorem last_cases (s : ByteArray) : (Lib.lastIndexByte s 47 = -1 ∧ 47 ∉ s.data.toList) ∨
    ∃ i : Nat, i < s.data.toList.length ∧ Lib.lastIndexByte s 47 = i ∧ s.data.toList = s.data.toList.take i ++ 47 :: s.data.toList.drop (i + 1) ∧ 47 ∉ s.data.toList.drop (i + 1) := by
  obtain ⟨⟨l⟩⟩ := s
  have hz : (ByteArray.mk { toList := l }).size = l.length := rfl
  have ce : ∀ j : Nat, j < l.length → (((ByteArray.mk { toList := l }).data[j]!).toNat : Int) = (47 : Int) → l[j]? = some 47 := fun j hj h => by
    have e : (ByteArray.mk { toList := l }).data[j]! = l[j] := by
      exact getElem!_pos (⟨l⟩ : Array UInt8) j (by simpa using hj)
    rw [e] at h
    rw [List.getElem?_eq_getElem hj]
    congr 1
    exact UInt8.toNat_inj.1 (by exact_mod_cast h)
  have cn : ∀ j : Nat, j < l.length → (((ByteArray.mk { toList := l }).data[j]!).toNat : Int) ≠ (47 : Int) → l[j]? ≠ some 47 := fun j hj h h' => by
    have e : (ByteArray.mk { toList := l }).data[j]! = l[j] := by
      exact getElem!_pos (⟨l⟩ : Array UInt8) j (by simpa using hj)
    rw [List.getElem?_eq_getElem hj] at h'
    rw [e, Option.some.inj h'] at h
    exact h (by decide)
  rcases Lib.lastIndexByte_spec ⟨⟨l⟩⟩ 47 with ⟨h1, h2⟩ | ⟨i, hi, h1, h2, h3⟩
  · refine .inl ⟨h1, fun hm => ?_⟩
    obtain ⟨j, hj⟩ := List.mem_iff_getElem?.1 hm
    have hj' : j < l.length := (List.getElem?_eq_some_iff.1 hj).1
    exact cn j hj' (h2 j (by rw [hz]; exact hj')) hj
  · rw [hz] at hi
    refine .inr ⟨i, hi, h1, ?_, fun hm => ?_⟩
    · have e := ce i hi h2
      have e2 : l[i] = 47 := by rw [List.getElem?_eq_getElem hi] at e; exact Option.some.inj e
      show l = l.take i ++ 47 :: l.drop (i + 1)
      rw [← e2, ← List.drop_eq_getElem_cons hi, List.take_append_drop]
    · obtain ⟨j, hj⟩ := List.mem_iff_getElem?.1 hm
      rw [List.getElem?_drop] at hj
      have hj' : i + 1 + j < l.length := (List.getElem?_eq_some_iff.1 hj).1
      exact cn _ hj' (h3 _ (by omega) (by rw [hz]; exact hj')) hj
/-! ### what a path is in; its last name -/
def upL (p : Tx) : Tx := jn (nms p).dropLast
def baseL (p : Tx) : Tx := (nms p).getLastD []
theorem up_plain {p : Tx} (h : 47 ∉ p) : upL p = [] ∧ baseL p = p := by
  unfold upL baseL; rw [nms_plain h]; exact ⟨rfl, rfl⟩
theorem up_sep (u b : Tx) (h : 47 ∉ b) : upL (u ++ 47 :: b) = u ∧ baseL (u ++ 47 :: b) = b := by
  unfold upL baseL
  rw [nms_sep, nms_plain h, List.dropLast_concat, jn_nms]
  exact ⟨rfl, by simp [List.getLastD_eq_getLast?]⟩
theorem ok_sep (u b : Tx) : okPath (u ++ 47 :: b) = true → okPath u = true := by
  unfold okPath
  rw [nms_sep]
  simp only [Bool.and_eq_true, decide_eq_true_eq, List.length_append, List.all_append]
  have := nms_pos b
  rintro ⟨h1, h2, _⟩
  exact ⟨by omega, h2⟩
theorem okName_nil : okName [] = false := rfl
theorem ok_nil : okPath [] = false := rfl
def joinL (p n : Tx) : Tx := if p = [] then n else p ++ 47 :: n
def joinOk (p n : Tx) : Bool := !n.contains 47 && okPath (joinL p n)
def underL (p d : Tx) : Bool := (d ++ [47]).isPrefixOf p && okPath p
def insideL (p : Tx) : Bool := p == [46, 119, 111, 114, 107] || underL p [46, 119, 111, 114, 107]
theorem under_iff (p d : Tx) : underL p d = true ↔ okPath p = true ∧ ∃ r, p = d ++ 47 :: r := by
  unfold underL
  rw [Bool.and_eq_true, List.isPrefixOf_iff_prefix]
  constructor
  · rintro ⟨⟨r, rfl⟩, h2⟩; exact ⟨h2, r, by simp⟩
  · rintro ⟨h2, r, rfl⟩; exact ⟨⟨r, by simp⟩, h2⟩
/-! ### the order -/
def rankB (c : UInt8) : Int := if c = 47 then -1 else (c.toNat : Int)
theorem rank_inj {a b : UInt8} (h : rankB a = rankB b) : a = b := by
  unfold rankB at h
  split at h
  · split at h
    · rename_i h1 h2; rw [h1, h2]
    · omega
  · split at h
    · omega
    · exact UInt8.toNat_inj.1 (by omega)
def cmpL : Tx → Tx → Int
  | [], [] => 0
  | [], _ :: _ => -1
  | _ :: _, [] => 1
  | a :: x, b :: y => if a = b then cmpL x y else Lib.compareInt (rankB a) (rankB b)
theorem cmpI_neg (x y : Int) : Lib.compareInt y x = -Lib.compareInt x y := by
  unfold Lib.compareInt; split <;> split <;> (try split) <;> omega
theorem cmpI_lt {x y : Int} (h : x < y) : Lib.compareInt x y = -1 := if_pos h
theorem cmpI_gt {x y : Int} (h : y < x) : Lib.compareInt x y = 1 := by unfold Lib.compareInt; rw [if_neg (by omega), if_pos h]
theorem cmpI_eq (x : Int) : Lib.compareInt x x = 0 := by unfold Lib.compareInt; simp
theorem cmpL_self (p : Tx) : cmpL p p = 0 := by
  induction p with
  | nil => rfl
  | cons a x ih => rw [cmpL, if_pos rfl, ih]
theorem cmpL_zero {p q : Tx} : cmpL p q = 0 ↔ p = q := by
  constructor
  · induction p generalizing q with
    | nil => cases q with
      | nil => intro _; rfl
      | cons b y => intro h; simp [cmpL] at h
    | cons a x ih => cases q with
      | nil => intro h; simp [cmpL] at h
      | cons b y =>
        intro h
        rw [cmpL] at h
        split at h
        · rename_i e; rw [e, ih h]
        · rename_i e
          have hr : rankB a ≠ rankB b := fun k => e (rank_inj k)
          unfold Lib.compareInt at h
          split at h
          · omega
          · split at h <;> omega
  · rintro rfl; exact cmpL_self p
theorem cmpL_neg (p q : Tx) : cmpL q p = -cmpL p q := by
  induction p generalizing q with
  | nil => cases q <;> rfl
  | cons a x ih => cases q with
    | nil => rfl
    | cons b y =>
      rw [cmpL, cmpL]
      by_cases h : a = b
      · rw [if_pos h, if_pos h.symm, ih]
      · rw [if_neg h, if_neg (Ne.symm h), cmpI_neg]
theorem cmpL_trans {p q r : Tx} (h1 : cmpL p q ≤ 0) (h2 : cmpL q r ≤ 0) : cmpL p r ≤ 0 := by
  induction p generalizing q r with
  | nil => cases r <;> simp [cmpL]
  | cons a x ih => cases q with
    | nil => simp [cmpL] at h1
    | cons b y => cases r with
      | nil => simp [cmpL] at h2
      | cons c z =>
        rw [cmpL] at h1 h2 ⊢
        have lt : ∀ {x y : UInt8}, x ≠ y → Lib.compareInt (rankB x) (rankB y) ≤ 0 → rankB x < rankB y := fun {x y} hn h => by
          have hr : rankB x ≠ rankB y := fun k => hn (rank_inj k)
          unfold Lib.compareInt at h
          split at h
          · assumption
          · split at h <;> omega
        by_cases hab : a = b
        · rw [if_pos hab] at h1
          by_cases hbc : b = c
          · rw [if_pos hbc] at h2; rw [if_pos (hab.trans hbc)]; exact ih h1 h2
          · rw [if_neg hbc] at h2; rw [if_neg (by rw [hab]; exact hbc), hab]; exact h2
        · rw [if_neg hab] at h1
          have l1 := lt hab h1
          by_cases hbc : b = c
          · rw [if_neg (by rw [← hbc]; exact hab), ← hbc]; exact h1
          · rw [if_neg hbc] at h2
            have l2 := lt hbc h2
            rw [if_neg (fun e => by rw [e] at l1; omega), cmpI_lt (by omega)]; decide
theorem cmpL_up (u b : Tx) : cmpL u (u ++ 47 :: b) = -1 := by
  induction u with
  | nil => rfl
  | cons a x ih => rw [List.cons_append, cmpL, if_pos rfl, ih]
theorem cmpL_vals (p q : Tx) : cmpL p q = -1 ∨ cmpL p q = 0 ∨ cmpL p q = 1 := by
  induction p generalizing q with
  | nil => cases q <;> simp [cmpL]
  | cons a x ih => cases q with
    | nil => simp [cmpL]
    | cons b y =>
      rw [cmpL]
      split
      · exact ih y
      · unfold Lib.compareInt; split
        · exact .inl rfl
        · split
          · exact .inr (.inr rfl)
          · exact .inr (.inl rfl)
end Go.Proofs.YtflgncagoiigfaaDoor
