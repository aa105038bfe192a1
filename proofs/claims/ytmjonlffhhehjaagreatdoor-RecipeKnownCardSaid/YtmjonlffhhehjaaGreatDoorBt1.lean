/- Plain laws of paths: names parted at a slash, what may be a path, what it is in, its last name. Of no program. No condition. -/
import Derived.Lib.Bytealg
import Derived.Lib.LastIndexByte
import Derived.Lib.Small
import Derived.Test.YtmjonlffhhehjaaGreatDoorBa1
import Derived.Lib.Hide
import Derived.IntWalk
import Derived.OwnWalk
import Derived.Laws.AppendOwn
import Derived.Sort.OwnSorted
import Derived.Lib.OwnBridge
import Derived.Test.YtmjonlffhhehjaaGreatDoorProg
import Derived.KernelRfl
import Derived.WalkKit
import Derived.Test.YtmjonlffhhehjaaGreatDoorBg1
import Derived.Shelf.Small.Wraps
import Derived.Shelf.Strings.Search3
import Derived.Shelf.Strings.LastIndex
import Derived.Shelf.Strings.Prefix
import Derived.RangeFuncNested
import Derived.RangeFuncCalls
import Derived.RangeFuncLeaves
import Derived.Shelf.RegionOpen
import Derived.OwnWalkIn
import Derived.TacticsInMore
import Derived.LoopNIn
import Derived.LoopIn
import Derived.Deep.Draws
namespace Go.Proofs.YtmjonlffhhehjaaGreatDoor
abbrev Tx := List UInt8
/-- A path's names: what stands between the slashes. -/
def nms : Tx → List Tx
  | [] => [[]]
  | c :: r => if c = 47 then [] :: nms r else match nms r with
    | [] => [[c]]
    | n :: ns => (c :: n) :: ns
/-- Names, put together again. -/
def jn : List Tx → Tx
  | [] => []
  | [n] => n
  | n :: m :: r => n ++ 47 :: jn (m :: r)
def okByte (c : UInt8) : Bool := (decide (97 ≤ c.toNat) && decide (c.toNat ≤ 122)) || (decide (48 ≤ c.toNat) && decide (c.toNat ≤ 57)) || c == 46 || c == 45 || c == 95
def okName (n : Tx) : Bool := !(n == [] || decide (16 < n.length) || n == [46] || n == [46, 46]) && n.all okByte
def okPath (p : Tx) : Bool := decide ((nms p).length ≤ 4) && (nms p).all okName
theorem nms_ne (p : Tx) : nms p ≠ [] := by
  cases p with
  | nil => simp [nms]
  | cons c r =>
    unfold nms
    split
    · simp
    · split <;> simp
theorem nms_pos (p : Tx) : 0 < (nms p).length := List.length_pos_iff.2 (nms_ne p)
theorem nms_sep (p q : Tx) : nms (p ++ 47 :: q) = nms p ++ nms q := by
  induction p with
  | nil => simp [nms]
  | cons c r ih =>
    rw [List.cons_append]
    by_cases h : c = 47
    · simp [nms, h, ih]
    · rw [nms, if_neg h, nms, if_neg h, ih]
      cases hr : nms r with
      | nil => exact absurd hr (nms_ne r)
      | cons n ns => rfl
theorem nms_plain {p : Tx} (h : 47 ∉ p) : nms p = [p] := by
  induction p with
  | nil => rfl
  | cons c r ih =>
    have h1 : c ≠ 47 := fun e => h (by simp [e])
    have h2 : 47 ∉ r := fun e => h (List.mem_cons_of_mem _ e)
    rw [nms, if_neg h1, ih h2]
theorem nms_no (p : Tx) : ∀ n ∈ nms p, 47 ∉ n := by
  induction p with
  | nil => simp [nms]
  | cons c r ih =>
    rw [nms]
    by_cases h : c = 47
    · rw [if_pos h]
      intro n hn
      rcases List.mem_cons.1 hn with rfl | hn
      · simp
      · exact ih n hn
    · rw [if_neg h]
      cases hr : nms r with
      | nil => exact absurd hr (nms_ne r)
      | cons m ms =>
        rw [hr] at ih
        intro n hn
        rcases List.mem_cons.1 hn with rfl | hn
        · intro e
          rcases List.mem_cons.1 e with e | e
          · exact h e.symm
          · exact ih m (List.mem_cons_self ..) e
        · exact ih n (List.mem_cons_of_mem _ hn)
theorem jn_cons (n : Tx) {l : List Tx} (h : l ≠ []) : jn (n :: l) = n ++ 47 :: jn l := by
  cases l with
  | nil => exact absurd rfl h
  | cons m r => rfl
theorem jn_nms (p : Tx) : jn (nms p) = p := by
  induction p with
  | nil => rfl
  | cons c r ih =>
    rw [nms]
    by_cases h : c = 47
    · rw [if_pos h, jn_cons _ (nms_ne r), ih, h]; rfl
    · rw [if_neg h]
      cases hr : nms r with
      | nil => exact absurd hr (nms_ne r)
      | cons m ms =>
        rw [hr] at ih
        rw [← ih]
        cases ms with
        | nil => rfl
        | cons k ks => rfl
theorem jn_snoc {l : List Tx} (h : l ≠ []) (b : Tx) : jn (l ++ [b]) = jn l ++ 47 :: b := by
  induction l with
  | nil => exact absurd rfl h
  | cons n r ih =>
    cases r with
    | nil => rfl
    | cons m s =>
      have e : n :: m :: s ++ [b] = n :: (m :: s ++ [b]) := rfl
      rw [e, jn_cons n (l := m :: s ++ [b]) (by simp), ih (by simp), jn_cons n (l := m :: s) (by simp), List.append_assoc, List.cons_append]
theorem nms_jn {l : List Tx} (h : l ≠ []) (hn : ∀ n ∈ l, 47 ∉ n) : nms (jn l) = l := by
  induction l with
  | nil => exact absurd rfl h
  | cons n r ih =>
    cases r with
    | nil => exact nms_plain (hn n (by simp))
    | cons m s =>
      rw [jn_cons _ (by simp), nms_sep, nms_plain (hn n (by simp)), ih (by simp) (fun k hk => hn k (List.mem_cons_of_mem _ hk))]
      rfl
theorem nms_count (p : Tx) : (nms p).length = p.count 47 + 1 := by
  induction p with
  | nil => rfl
  | cons c r ih =>
    rw [nms]
    by_cases h : c = 47
    · rw [if_pos h, h]; simp [ih]
    · rw [if_neg h, List.count_cons_of_ne (by simpa using h)]
      cases hr : nms r with
      | nil => exact absurd hr (nms_ne r)
      | cons m ms => rw [hr] at ih; simpa using ih
/-! ### the first slash, the last slash -/
theorem idx_cases (s : Tx) : (Lib.indexByte s 47 = -1 ∧ 47 ∉ s) ∨ ∃ i : Nat, i < s.length ∧ Lib.indexByte s 47 = i ∧ s = s.take i ++ 47 :: s.drop (i + 1) ∧ 47 ∉ s.take i := by
  induction s with
  | nil => exact .inl ⟨rfl, by simp⟩
  | cons b l ih =>
    unfold Lib.indexByte
    by_cases hb : b = 47
    · exact .inr ⟨0, by simp, by simp [hb], by simp [hb], by simp⟩
    · have hb' : (b == 47) = false := by simpa using hb
      rcases ih with ⟨h1, h2⟩ | ⟨i, h0, h1, h2, h3⟩
      · exact .inl ⟨by simp [hb', h1], by simp [h2, Ne.symm hb]⟩
      · refine .inr ⟨i + 1, by simpa using h0, ?_, ?_, ?_⟩
        · rw [hb', h1]
          have : ((i : Int) == -1) = false := by rw [beq_eq_false_iff_ne]; omega
          simp [this]
        · simpa using h2
        · simp [h3, Ne.symm hb]
theorem nms_hit {s : Tx} {i : Nat} (h2 : s = s.take i ++ 47 :: s.drop (i + 1)) (h3 : 47 ∉ s.take i) : nms s = s.take i :: nms (s.drop (i + 1)) := by
  conv => lhs; rw [h2]
  rw [nms_sep, nms_plain h3]; rfl
theorem last_cases (s : ByteArray) : (Lib.lastIndexByte s 47 = -1 ∧ 47 ∉ s.data.toList) ∨
    ∃ i : Nat, i < s.data.toList.length ∧ Lib.lastIndexByte s 47 = i ∧ s.data.toList = s.data.toList.take i ++ 47 :: s.data.toList.drop (i + 1) ∧ 47 ∉ s.data.toList.drop (i + 1) := by
  obtain ⟨⟨l⟩⟩ := s
  have hz : (ByteArray.mk { toList := l }).size = l.length := rfl
  have ce : ∀ j : Nat, j < l.length → (((ByteArray.mk { toList := l }).data[j]!).toNat : Int) = (47 : Int) → l[j]? = some 47 := fun j hj h => by
    have e : (ByteArray.mk { toList := l }).data[j]! = l[j] := by
      exact getElem!_pos (⟨l⟩ : Array UInt8) j (by simpa using hj)
    rw [e] at h
    rw [List.getElem?_eq_getElem hj]
    congr 1
    exact UInt8.toNat_inj.1 (by exact_mod_cast h)
  have cn : ∀ j : Nat, j < l.length → (((ByteArray.mk { toList := l }).data[j]!).toNat : Int) ≠ (47 : Int) → l[j]? ≠ some 47 := fun j hj h h' => by
    have e : (ByteArray.mk { toList := l }).data[j]! = l[j] := by
      exact getElem!_pos (⟨l⟩ : Array UInt8) j (by simpa using hj)
    rw [List.getElem?_eq_getElem hj] at h'
    rw [e, Option.some.inj h'] at h
    exact h (by decide)
  rcases Lib.lastIndexByte_spec ⟨⟨l⟩⟩ 47 with ⟨h1, h2⟩ | ⟨i, hi, h1, h2, h3⟩
  · refine .inl ⟨h1, fun hm => ?_⟩
    obtain ⟨j, hj⟩ := List.mem_iff_getElem?.1 hm
    have hj' : j < l.length := (List.getElem?_eq_some_iff.1 hj).1
    exact cn j hj' (h2 j (by rw [hz]; exact hj')) hj
  · rw [hz] at hi
    refine .inr ⟨i, hi, h1, ?_, fun hm => ?_⟩
    · have e := ce i hi h2
      have e2 : l[i] = 47 := by rw [List.getElem?_eq_getElem hi] at e; exact Option.some.inj e
      show l = l.take i ++ 47 :: l.drop (i + 1)
      rw [← e2, ← List.drop_eq_getElem_cons hi, List.take_append_drop]
    · obtain ⟨j, hj⟩ := List.mem_iff_getElem?.1 hm
      rw [List.getElem?_drop] at hj
      have hj' : i + 1 + j < l.length := (List.getElem?_eq_some_iff.1 hj).1
      exact cn _ hj' (h3 _ (by omega) (by rw [hz]; exact hj')) hj
/-! ### what a path is in; its last name -/
def upL (p : Tx) : Tx := jn (nms p).dropLast
def baseL (p : Tx) : Tx := (nms p).getLastD []
theorem up_plain {p : Tx} (h : 47 ∉ p) : upL p = [] ∧ baseL p = p := by
  unfold upL baseL; rw [nms_plain h]; exact ⟨rfl, rfl⟩
theorem up_sep (u b : Tx) (h : 47 ∉ b) : upL (u ++ 47 :: b) = u ∧ baseL (u ++ 47 :: b) = b := by
  unfold upL baseL
  rw [nms_sep, nms_plain h, List.dropLast_concat, jn_nms]
  exact ⟨rfl, by simp [List.getLastD_eq_getLast?]⟩
theorem ok_sep (u b : Tx) : okPath (u ++ 47 :: b) = true → okPath u = true := by
  unfold okPath
  rw [nms_sep]
  simp only [Bool.and_eq_true, decide_eq_true_eq, List.length_append, List.all_append]
  have := nms_pos b
  rintro ⟨h1, h2, _⟩
  exact ⟨by omega, h2⟩
theorem okName_nil : okName [] = false := rfl
theorem ok_nil : okPath [] = false := rfl
def joinL (p n : Tx) : Tx := if p = [] then n else p ++ 47 :: n
def joinOk (p n : Tx) : Bool := !n.contains 47 && okPath (joinL p n)
def underL (p d : Tx) : Bool := (d ++ [47]).isPrefixOf p && okPath p
def insideL (p : Tx) : Bool := p == [46, 119, 111, 114, 107] || underL p [46, 119, 111, 114, 107]
theorem under_iff (p d : Tx) : underL p d = true ↔ okPath p = true ∧ ∃ r, p = d ++ 47 :: r := by
  unfold underL
  rw [Bool.and_eq_true, List.isPrefixOf_iff_prefix]
  constructor
  · rintro ⟨⟨r, rfl⟩, h2⟩; exact ⟨h2, r, by simp⟩
  · rintro ⟨h2, r, rfl⟩; exact ⟨⟨r, by simp⟩, h2⟩
/-! ### the order -/
def rankB (c : UInt8) : Int := if c = 47 then -1 else (c.toNat : Int)
theorem rank_inj {a b : UInt8} (h : rankB a = rankB b) : a = b := by
  unfold rankB at h
  split at h
  · split at h
    · rename_i h1 h2; rw [h1, h2]
    · omega
  · split at h
    · omega
    · exact UInt8.toNat_inj.1 (by omega)
def cmpT : Tx → Tx → Int
  | [], [] => 0
  | [], _ :: _ => -1
  | _ :: _, [] => 1
  | a :: x, b :: y => if a = b then cmpT x y else Lib.compareInt (rankB a) (rankB b)
theorem cmpI_neg (x y : Int) : Lib.compareInt y x = -Lib.compareInt x y := by
  unfold Lib.compareInt; split <;> split <;> (try split) <;> omega
theorem cmpI_lt {x y : Int} (h : x < y) : Lib.compareInt x y = -1 := if_pos h
theorem cmpI_gt {x y : Int} (h : y < x) : Lib.compareInt x y = 1 := by unfold Lib.compareInt; rw [if_neg (by omega), if_pos h]
theorem cmpI_eq (x : Int) : Lib.compareInt x x = 0 := by unfold Lib.compareInt; simp
theorem cmpT_self (p : Tx) : cmpT p p = 0 := by
  induction p with
  | nil => rfl
  | cons a x ih => rw [cmpT, if_pos rfl, ih]
theorem cmpT_zero {p q : Tx} : cmpT p q = 0 ↔ p = q := by
  constructor
  · induction p generalizing q with
    | nil => cases q with
      | nil => intro _; rfl
      | cons b y => intro h; simp [cmpT] at h
    | cons a x ih => cases q with
      | nil => intro h; simp [cmpT] at h
      | cons b y =>
        intro h
        rw [cmpT] at h
        split at h
        · rename_i e; rw [e, ih h]
        · rename_i e
          have hr : rankB a ≠ rankB b := fun k => e (rank_inj k)
          unfold Lib.compareInt at h
          split at h
          · omega
          · split at h <;> omega
  · rintro rfl; exact cmpT_self p
theorem cmpT_neg (p q : Tx) : cmpT q p = -cmpT p q := by
  induction p generalizing q with
  | nil => cases q <;> rfl
  | cons a x ih => cases q with
    | nil => rfl
    | cons b y =>
      rw [cmpT, cmpT]
      by_cases h : a = b
      · rw [if_pos h, if_pos h.symm, ih]
      · rw [if_neg h, if_neg (Ne.symm h), cmpI_neg]
theorem cmpT_trans {p q r : Tx} (h1 : cmpT p q ≤ 0) (h2 : cmpT q r ≤ 0) : cmpT p r ≤ 0 := by
  induction p generalizing q r with
  | nil => cases r <;> simp [cmpT]
  | cons a x ih => cases q with
    | nil => simp [cmpT] at h1
    | cons b y => cases r with
      | nil => simp [cmpT] at h2
      | cons c z =>
        rw [cmpT] at h1 h2 ⊢
        have lt : ∀ {x y : UInt8}, x ≠ y → Lib.compareInt (rankB x) (rankB y) ≤ 0 → rankB x < rankB y := fun {x y} hn h => by
          have hr : rankB x ≠ rankB y := fun k => hn (rank_inj k)
          unfold Lib.compareInt at h
          split at h
          · assumption
          · split at h <;> omega
        by_cases hab : a = b
        · rw [if_pos hab] at h1
          by_cases hbc : b = c
          · rw [if_pos hbc] at h2; rw [if_pos (hab.trans hbc)]; exact ih h1 h2
          · rw [if_neg hbc] at h2; rw [if_neg (by rw [hab]; exact hbc), hab]; exact h2
        · rw [if_neg hab] at h1
          have l1 := lt hab h1
          by_cases hbc : b = c
          · rw [if_neg (by rw [← hbc]; exact hab), ← hbc]; exact h1
          · rw [if_neg hbc] at h2
            have l2 := lt hbc h2
            rw [if_neg (fun e => by rw [e] at l1; omega), cmpI_lt (by omega)]; decide
theorem cmpL_up (u b : Tx) : cmpT u (u ++ 47 :: b) = -1 := by
  induction u with
  | nil => rfl
  | cons a x ih => rw [List.cons_append, cmpT, if_pos rfl, ih]
theorem cmpT_vals (p q : Tx) : cmpT p q = -1 ∨ cmpT p q = 0 ∨ cmpT p q = 1 := by
  induction p generalizing q with
  | nil => cases q <;> simp [cmpT]
  | cons a x ih => cases q with
    | nil => simp [cmpT]
    | cons b y =>
      rw [cmpT]
      split
      · exact ih y
      · unfold Lib.compareInt; split
        · exact .inl rfl
        · split
          · exact .inr (.inr rfl)
          · exact .inr (.inl rfl)
end Go.Proofs.YtmjonlffhhehjaaGreatDoor
/- Plain laws of paths, on: what path answers, what the document counts, names compared. Of no function of the program. No condition. -/
namespace Go.Proofs.YtmjonlffhhehjaaGreatDoor
open Go.RowKit Go.Sort
theorem okName_bad (s : ByteArray) (h : s.data = #[] ∨ 16 < (s.size : Int) ∨ s.data.toList = [46] ∨ s.data.toList = [46, 46]) : okName s.data.toList = false := by
  unfold okName
  have hsz : s.data.toList.length = s.size := rfl
  rcases h with h | h | h | h
  · rw [h]; rfl
  · have : decide (16 < s.data.toList.length) = true := by rw [hsz]; exact decide_eq_true (by omega)
    rw [this]; simp
  · rw [h]; rfl
  · rw [h]; rfl
theorem okName_good (s : ByteArray) (h1 : ¬ s.data = #[]) (h2 : (s.size : Int) ≤ 16) (h3 : ¬ s.data.toList = [46]) (h4 : ¬ s.data.toList = [46, 46]) : okName s.data.toList = s.data.toList.all okByte := by
  unfold okName
  have hsz : s.data.toList.length = s.size := rfl
  have e1 : (s.data.toList == []) = false := by rw [beq_eq_false_iff_ne]; intro e; exact h1 (Array.toList_eq_nil_iff.1 e)
  have e2 : decide (16 < s.data.toList.length) = false := by rw [hsz]; exact decide_eq_false (by omega)
  have e3 : (s.data.toList == [46]) = false := by rw [beq_eq_false_iff_ne]; exact h3
  have e4 : (s.data.toList == [46, 46]) = false := by rw [beq_eq_false_iff_ne]; exact h4
  rw [e1, e2, e3, e4]; rfl
theorem byte_at (s : ByteArray) (i : Nat) (h : i < s.size) : s.data.toList[i]? = some (s[i]'h) := by
  obtain ⟨⟨l⟩⟩ := s
  have h' : i < l.length := h
  show l[i]? = some _
  rw [List.getElem?_eq_getElem h']
  rfl
theorem all_take_succ {l : Tx} {i : Nat} {c : UInt8} (h : l[i]? = some c) : (l.take (i + 1)).all okByte = ((l.take i).all okByte && okByte c) := by
  rw [List.take_add_one, h]; simp
/-- What Up, Base, Depth, Join tell: of what is not Good nothing. -/
def upV (p : Tx) : Tx := if okPath p then upL p else []
def baseV (p : Tx) : Tx := if okPath p then baseL p else []
def depthV (p : Tx) : Nat := if okPath p then (nms p).length else 0
def joinV (p n : Tx) : Tx := if joinOk p n then joinL p n else []
theorem cut_upT (s : ByteArray) (i : Nat) : (⟨(s.data.toList.take i).toArray⟩ : ByteArray) = s.extract 0 i := by
  rw [Lib.extract_eq]; simp
theorem cut_fromT (s : ByteArray) (i : Nat) : (⟨(s.data.toList.drop i).toArray⟩ : ByteArray) = s.extract i s.size := by
  rw [Lib.extract_eq, List.take_of_length_le]
  rw [List.length_drop]; exact Nat.le_refl _
theorem no_text {p : ByteArray} (h : p.data = #[]) : p.toList = [] := by rw [Lib.toList_data, h]
theorem some_text {p : ByteArray} (h : ¬ p.data = #[]) : p.toList.isEmpty = false := by
  rw [Lib.toList_data]
  cases he : p.data.toList with
  | nil => exact absurd (Array.toList_eq_nil_iff.1 he) h
  | cons a l => rfl
/-- What Join tries: the whole. -/
theorem whole_eq (p n : ByteArray) (hp : ¬ p.data = #[]) : (p ++ ⟨#[47]⟩ ++ n).data.toList = joinL p.data.toList n.data.toList := by
  unfold joinL
  rw [if_neg (fun e => hp (Array.toList_eq_nil_iff.1 e))]
  simp [ByteArray.data_append]
theorem base_no (p : Tx) : 47 ∉ baseL p := by
  unfold baseL
  have h := nms_no p
  rw [List.getLastD_eq_getLast?]
  cases hl : (nms p).getLast? with
  | none => simp
  | some b => exact h b (List.mem_of_getLast? hl)
theorem last_parts (p : Tx) : (47 ∉ p ∧ upL p = [] ∧ baseL p = p) ∨ ∃ u b, p = u ++ 47 :: b ∧ 47 ∉ b ∧ upL p = u ∧ baseL p = b := by
  rcases last_cases ⟨p.toArray⟩ with ⟨_, h⟩ | ⟨i, _, _, h, h2⟩
  · exact .inl ⟨h, up_plain h⟩
  · refine .inr ⟨p.take i, p.drop (i + 1), h, h2, ?_⟩
    have h4 := up_sep (p.take i) (p.drop (i + 1)) h2
    have h' : p = p.take i ++ 47 :: p.drop (i + 1) := h
    rwa [← h'] at h4
theorem up_nil {u b : Tx} (h : okPath (u ++ 47 :: b) = true) : u ≠ [] := by
  rintro rfl
  have := ok_sep [] b h
  rw [ok_nil] at this
  cases this
theorem join_back {p : Tx} (h : okPath p = true) : joinOk (upL p) (baseL p) = true ∧ joinL (upL p) (baseL p) = p := by
  have hj : joinL (upL p) (baseL p) = p := by
    rcases last_parts p with ⟨_, h1, h2⟩ | ⟨u, b, he, _, h1, h2⟩
    · rw [h1, h2]; rfl
    · rw [h1, h2, he]
      exact if_neg (up_nil (he ▸ h))
  refine ⟨?_, hj⟩
  unfold joinOk
  rw [hj, h]
  have : (baseL p).contains 47 = false := by simpa using base_no p
  rw [this]; rfl
theorem up_less (p : Tx) : (upL p).length ≤ p.length ∧ (baseL p).length ≤ p.length := by
  rcases last_parts p with ⟨_, h1, h2⟩ | ⟨u, b, he, _, h1, h2⟩
  · rw [h1, h2]; simp
  · rw [h1, h2, he]; simp; omega
theorem up_within {p : Tx} (h : okPath p = true) (hu : upL p ≠ []) : underL p (upL p) = true ∧ cmpT (upL p) p = -1 ∧ depthV p = depthV (upL p) + 1 := by
  rcases last_parts p with ⟨_, h1, h2⟩ | ⟨u, b, he, hb, h1, h2⟩
  · exact absurd h1 hu
  · rw [h1]
    refine ⟨(under_iff _ _).2 ⟨h, b, he⟩, by rw [he]; exact cmpL_up u b, ?_⟩
    unfold depthV
    rw [h, he, ok_sep u b (he ▸ h), if_pos rfl, if_pos rfl, nms_sep, nms_plain hb]
    simp
theorem under_trans {p q r : Tx} (h1 : underL q p = true) (h2 : underL r q = true) : underL r p = true := by
  obtain ⟨_, s, rfl⟩ := (under_iff _ _).1 h1
  obtain ⟨h3, t, rfl⟩ := (under_iff _ _).1 h2
  exact (under_iff _ _).2 ⟨h3, s ++ 47 :: t, by simp⟩
theorem text_eq (p q : ByteArray) : (p.toList = q.toList) ↔ p = q := by
  rw [Lib.toList_data, Lib.toList_data]
  constructor
  · intro h; rw [← Lib.mk_data p, ← Lib.mk_data q, h]
  · rintro rfl; rfl
theorem ok_ne {n : Tx} (h : okName n = true) : n ≠ [] := by rintro rfl; cases h
theorem ok_len {n : Tx} (h : okName n = true) : n.length ≤ 16 := by
  unfold okName at h
  simp only [Bool.and_eq_true, Bool.not_eq_true', Bool.or_eq_false_iff, decide_eq_false_iff_not] at h
  omega
theorem jn_nil {T : List Tx} (h : ∀ n ∈ T, okName n = true ∧ 47 ∉ n) : jn T = [] ↔ T = [] := by
  constructor
  · intro e
    cases T with
    | nil => rfl
    | cons n r =>
      exfalso
      have hn := ok_ne (h n (by simp)).1
      cases r with
      | nil => exact hn e
      | cons m s => rw [jn_cons _ (by simp)] at e; simp at e
  · rintro rfl; rfl
theorem jn_len {T : List Tx} (h : ∀ n ∈ T, okName n = true ∧ 47 ∉ n) : (jn T).length ≤ 17 * T.length := by
  induction T with
  | nil => simp [jn]
  | cons n r ih =>
    have h1 := ok_len (h n (by simp)).1
    have h2 := ih (fun m hm => h m (List.mem_cons_of_mem _ hm))
    cases r with
    | nil => show n.length ≤ 17; omega
    | cons m s => rw [jn_cons _ (by simp), List.length_append, List.length_cons]; simp only [List.length_cons] at h2 ⊢; omega
theorem one_name {X : Tx} (h : okPath X = true) (hd : depthV X = 1) : 47 ∉ X ∧ okName X = true := by
  unfold depthV at hd
  rw [if_pos h] at hd
  obtain ⟨n, hn⟩ := List.length_eq_one_iff.1 hd
  have hx : X = n := by rw [← jn_nms X, hn]; rfl
  unfold okPath at h
  rw [hn] at h
  refine ⟨?_, ?_⟩
  · have := nms_no X n (by rw [hn]; simp)
    rwa [← hx] at this
  · rw [hx]; simpa using h
theorem name_one {X : Tx} (h : 47 ∉ X) (hn : okName X = true) : okPath X = true ∧ depthV X = 1 := by
  have h1 : okPath X = true := by unfold okPath; rw [nms_plain h]; simp [hn]
  exact ⟨h1, by unfold depthV; rw [if_pos h1, nms_plain h]; rfl⟩
theorem join_all {T : List Tx} (X : Tx) (h : ∀ n ∈ T, okName n = true ∧ 47 ∉ n) : joinL (jn T) X = jn (T ++ [X]) := by
  unfold joinL
  by_cases ht : T = []
  · rw [ht]; rfl
  · rw [if_neg (fun e => ht ((jn_nil h).1 e)), jn_snoc ht]
theorem nms_all {T : List Tx} {X : Tx} (h : ∀ n ∈ T, okName n = true ∧ 47 ∉ n) (hx : 47 ∉ X) : nms (jn (T ++ [X])) = T ++ [X] :=
  nms_jn (by simp) (fun n hn => by
    rcases List.mem_append.1 hn with h1 | h1
    · exact (h n h1).2
    · rw [List.mem_singleton.1 h1]; exact hx)
theorem join_step {T : List Tx} (X : Tx) (h : ∀ n ∈ T, okName n = true ∧ 47 ∉ n) (h4 : T.length ≤ 4) :
    joinOk (jn T) X = (okPath X && (depthV X == 1) && decide (T.length < 4)) := by
  unfold joinOk
  rw [join_all X h]
  by_cases hx : 47 ∈ X
  · have hc : X.contains 47 = true := by simpa using hx
    rw [hc, Bool.not_true, Bool.false_and]
    cases hg : okPath X with
    | false => rfl
    | true =>
      have : (depthV X == 1) = false := by
        rw [beq_eq_false_iff_ne]; intro hd; exact (one_name hg hd).1 hx
      rw [this]; rfl
  · have hc : X.contains 47 = false := by simpa using hx
    rw [hc, Bool.not_false, Bool.true_and]
    unfold okPath
    rw [nms_all h hx, List.all_append, List.length_append]
    have ha : T.all okName = true := List.all_eq_true.2 fun n hn => (h n hn).1
    rw [ha]
    cases hn : okName X with
    | false => simp [nms_plain hx, hn]
    | true =>
      have hd := (name_one hx hn).2
      rw [hd, nms_plain hx]
      simp [hn]
      omega
theorem join_got {T : List Tx} {X : Tx} (h : ∀ n ∈ T, okName n = true ∧ 47 ∉ n) (hk : joinOk (jn T) X = true) :
    joinV (jn T) X = jn (T ++ [X]) ∧ depthV (jn (T ++ [X])) = T.length + 1 ∧ baseV (jn (T ++ [X])) = X ∧ (T ≠ [] → underL (jn (T ++ [X])) (jn T) = true) ∧ (∀ n ∈ T ++ [X], okName n = true ∧ 47 ∉ n) := by
  have hv : joinV (jn T) X = jn (T ++ [X]) := by unfold joinV; rw [if_pos hk, join_all X h]
  have hk2 := hk
  unfold joinOk at hk
  rw [join_all X h, Bool.and_eq_true] at hk
  have hx : 47 ∉ X := by simpa using hk.1
  have hok := hk.2
  have hn := nms_all h hx
  refine ⟨hv, ?_, ?_, fun ht => ?_, ?_⟩
  · unfold depthV; rw [if_pos hok, hn]; simp
  · unfold baseV baseL; rw [if_pos hok, hn]; simp [List.getLastD_eq_getLast?]
  · exact (under_iff _ _).2 ⟨hok, X, jn_snoc ht X⟩
  · unfold okPath at hok
    rw [hn, Bool.and_eq_true] at hok
    intro n hm
    refine ⟨List.all_eq_true.1 hok.2 n hm, ?_⟩
    rcases List.mem_append.1 hm with h1 | h1
    · exact (h n h1).2
    · rw [List.mem_singleton.1 h1]; exact hx
abbrev bt (s : ByteArray) : Tx := s.data.toList
theorem text_size (p : ByteArray) : p.size = (bt p).length := rfl
/-- Where the walk through the text stands: the names so far, the text behind them, no slash since. -/
def NSt (S : Tx) (G : List Tx) (f i : Nat) : Prop := (i ≤ S.length ∧ f ≤ i ∧ nms S = G ++ nms (S.drop f) ∧ 47 ∉ (S.drop f).take (i - f)) ∨ (i = S.length + 1 ∧ G = nms S)
theorem NSt.len {S : Tx} {G : List Tx} {f i : Nat} (h : NSt S G f i) : G.length ≤ S.length + 1 := by
  have hc : (nms S).length ≤ S.length + 1 := by rw [nms_count]; have : S.count 47 ≤ S.length := List.count_le_length; omega
  rcases h with ⟨_, _, h3, _⟩ | ⟨_, h2⟩
  · rw [h3, List.length_append] at hc; omega
  · rw [h2]; exact hc
theorem NSt.last {S : Tx} {G : List Tx} {f : Nat} (h : NSt S G f S.length) : NSt S (G ++ [(S.drop f).take (S.length - f)]) (S.length + 1) (S.length + 1) := by
  rcases h with ⟨_, h2, h3, h4⟩ | ⟨h1, _⟩
  · refine .inr ⟨rfl, ?_⟩
    have e : (S.drop f).take (S.length - f) = S.drop f := List.take_of_length_le (by rw [List.length_drop]; exact Nat.le_refl _)
    rw [e] at h4 ⊢
    rw [h3, nms_plain h4]
  · omega
theorem drop_split (S : Tx) (f i : Nat) (hf : f ≤ i) (hi : i < S.length) : S.drop f = (S.drop f).take (i - f) ++ S[i] :: S.drop (i + 1) := by
  have h1 := (List.take_append_drop (i - f) (S.drop f)).symm
  rw [List.drop_drop, show f + (i - f) = i by omega, List.drop_eq_getElem_cons hi] at h1
  exact h1
theorem NSt.cut {S : Tx} {G : List Tx} {f i : Nat} (h : NSt S G f i) (hi : i < S.length) (hc : S[i] = 47) : NSt S (G ++ [(S.drop f).take (i - f)]) (i + 1) (i + 1) := by
  rcases h with ⟨_, h2, h3, h4⟩ | ⟨h1, _⟩
  · refine .inl ⟨by omega, Nat.le_refl _, ?_, by simp⟩
    have hd := drop_split S f i h2 hi
    rw [hc] at hd
    rw [h3]
    conv => lhs; rw [hd]
    rw [nms_sep, nms_plain h4, List.append_assoc]
  · omega
theorem NSt.on {S : Tx} {G : List Tx} {f i : Nat} (h : NSt S G f i) (hi : i < S.length) (hc : S[i] ≠ 47) : NSt S G f (i + 1) := by
  rcases h with ⟨_, h2, h3, h4⟩ | ⟨h1, _⟩
  · refine .inl ⟨by omega, by omega, h3, ?_⟩
    rw [show i + 1 - f = (i - f) + 1 by omega, List.take_add_one, List.getElem?_drop, show f + (i - f) = i by omega, List.getElem?_eq_getElem hi]
    simp only [List.mem_append, Option.mem_toList, Option.some.injEq, not_or]
    exact ⟨h4, fun e => hc (by simpa using e)⟩
  · omega
/-- The byte's test, by number. -/
theorem okByte_cases (c : UInt8) (n : Int) (hn : n = (c.toNat : Int)) :
    (okByte c = true ∧ ((97 ≤ n ∧ n ≤ 122) ∨ (n < 97 ∧ 48 ≤ n ∧ n ≤ 57) ∨ n = 46 ∨ n = 45 ∨ n = 95)) ∨
    (okByte c = false ∧ ¬ n = 46 ∧ ¬ n = 45 ∧ ¬ n = 95 ∧ ((n < 97 ∧ n < 48) ∨ (n < 97 ∧ ¬ n < 48 ∧ 57 < n) ∨ (¬ n < 97 ∧ 122 < n ∧ ¬ n < 48 ∧ 57 < n))) := by
  have e1 : (c == 46) = decide (n = 46) := by rw [hn, Bool.eq_iff_iff]; simp [← UInt8.toNat_inj]; omega
  have e2 : (c == 45) = decide (n = 45) := by rw [hn, Bool.eq_iff_iff]; simp [← UInt8.toNat_inj]; omega
  have e3 : (c == 95) = decide (n = 95) := by rw [hn, Bool.eq_iff_iff]; simp [← UInt8.toNat_inj]; omega
  cases hb : okByte c with
  | true =>
    refine .inl ⟨rfl, ?_⟩
    unfold okByte at hb
    rw [e1, e2, e3] at hb
    simp only [Bool.or_eq_true, Bool.and_eq_true, decide_eq_true_eq] at hb
    omega
  | false =>
    refine .inr ⟨rfl, ?_⟩
    unfold okByte at hb
    rw [e1, e2, e3] at hb
    simp only [Bool.or_eq_false_iff, Bool.and_eq_false_iff, decide_eq_false_iff_not] at hb
    omega
theorem okName_no {n : Tx} (h : n.length < 1 ∨ 16 < n.length ∨ n = [46] ∨ n = [46, 46]) : okName n = false := by
  unfold okName
  rcases h with h | h | h | h
  · have : n = [] := List.eq_nil_of_length_eq_zero (by omega)
    rw [this]; rfl
  · rw [decide_eq_true h]; simp
  · rw [h]; rfl
  · rw [h]; rfl
theorem okName_all {n : Tx} (h1 : ¬ n.length < 1) (h2 : ¬ 16 < n.length) (h3 : ¬ n = [46]) (h4 : ¬ n = [46, 46]) : okName n = n.all okByte := by
  unfold okName
  have e1 : (n == []) = false := by rw [beq_eq_false_iff_ne]; rintro rfl; exact h1 (by simp)
  have e3 : (n == [46]) = false := by rw [beq_eq_false_iff_ne]; exact h3
  have e4 : (n == [46, 46]) = false := by rw [beq_eq_false_iff_ne]; exact h4
  rw [e1, decide_eq_false h2, e3, e4]; rfl
theorem nms_len {p : Tx} : ∀ n ∈ nms p, n.length ≤ p.length := by
  induction p with
  | nil => intro n hn; simp [nms] at hn; simp [hn]
  | cons c r ih =>
    intro n hn
    rw [nms] at hn
    by_cases h : c = 47
    · rw [if_pos h] at hn
      rcases List.mem_cons.1 hn with rfl | hn
      · simp
      · have := ih n hn; simp only [List.length_cons]; omega
    · rw [if_neg h] at hn
      cases hr : nms r with
      | nil => exact absurd hr (nms_ne r)
      | cons m ms =>
        rw [hr] at hn ih
        rcases List.mem_cons.1 hn with rfl | hn
        · have := ih m (List.mem_cons_self ..); simp only [List.length_cons]; omega
        · have := ih n (List.mem_cons_of_mem _ hn); simp only [List.length_cons]; omega
theorem base_at (S : Tx) : ∃ j, j + 1 = (nms S).length ∧ ∃ h : j < (nms S).length, baseL S = (nms S)[j] := by
  have h0 := nms_pos S
  refine ⟨(nms S).length - 1, by omega, by omega, ?_⟩
  unfold baseL
  rw [List.getLastD_eq_getLast?, List.getLast?_eq_getElem?, List.getElem?_eq_getElem (show (nms S).length - 1 < (nms S).length by omega)]
  rfl
theorem take_last (N : List Tx) {j : Nat} (h : j + 1 = N.length) : N.take j = N.dropLast := by
  rw [List.dropLast_eq_take]; congr 1; omega
theorem one_no (X : Tx) : ((nms X).length = 1) ↔ X.contains 47 = false := by
  rw [nms_count]
  have : X.count 47 = 0 ↔ 47 ∉ X := List.count_eq_zero
  constructor
  · intro h; have h2 := this.1 (by omega); simpa using h2
  · intro h; have h2 := this.2 (by simpa using h); omega
theorem under_no {p d : Tx} (h : okPath p = false ∨ okPath d = false ∨ ¬ d.length < p.length ∨ ¬ p.take d.length = d) : underL p d = false := by
  cases hu : underL p d with
  | false => rfl
  | true =>
    exfalso
    obtain ⟨h1, r, rfl⟩ := (under_iff _ _).1 hu
    rcases h with h | h | h | h
    · rw [h1] at h; cases h
    · rw [ok_sep _ _ h1] at h; cases h
    · rw [List.length_append, List.length_cons] at h; omega
    · rw [List.take_left] at h; exact h rfl
theorem under_at {p d : Tx} (h1 : okPath p = true) (h3 : d.length < p.length) (h4 : p.take d.length = d) : underL p d = (p[d.length] == 47) := by
  have hs : p = d ++ p[d.length] :: p.drop (d.length + 1) := by
    have := (List.take_append_drop d.length p).symm
    rw [h4, List.drop_eq_getElem_cons h3] at this
    exact this
  cases hc : (p[d.length] == 47) with
  | true =>
    rw [beq_iff_eq] at hc
    rw [hc] at hs
    exact (under_iff _ _).2 ⟨h1, _, hs⟩
  | false =>
    cases hu : underL p d with
    | false => rfl
    | true =>
      exfalso
      obtain ⟨_, r, hr⟩ := (under_iff _ _).1 hu
      rw [hs] at hr
      have := List.append_cancel_left hr
      injection this with e1 _
      rw [e1] at hc
      cases hc
/-- Names compared one by one, by bytes. -/
def ncmp : List Tx → List Tx → Int
  | [], [] => 0
  | [], _ :: _ => -1
  | _ :: _, [] => 1
  | x :: X, y :: Y => if Op.bytesLess x y = true then -1 else if (Op.bytesLess x y || x == y) = false then 1 else ncmp X Y
theorem bl_nil (x : Tx) : Op.bytesLess x [] = false := by cases x <;> rfl
theorem bl_cons (y : UInt8) (Y : Tx) : Op.bytesLess [] (y :: Y) = true := rfl
theorem bl_same (c : UInt8) (x y : Tx) : Op.bytesLess (c :: x) (c :: y) = Op.bytesLess x y := by
  show (decide (c < c) || (c == c && Op.bytesLess x y)) = _
  have : ¬ c < c := UInt8.lt_irrefl c
  simp [this]
theorem bl_diff {c d : UInt8} (h : c ≠ d) (x y : Tx) : Op.bytesLess (c :: x) (d :: y) = decide (c < d) := by
  show (decide (c < d) || (c == d && Op.bytesLess x y)) = _
  have : (c == d) = false := by rw [beq_eq_false_iff_ne]; exact h
  rw [this]; simp
theorem ncmp_same (x : Tx) (X Y : List Tx) : ncmp (x :: X) (x :: Y) = ncmp X Y := by
  have h1 : Op.bytesLess x x = false := by
    induction x with
    | nil => rfl
    | cons c r ih => rw [bl_same, ih]
  rw [ncmp, h1]; simp
theorem ncmp_cons (c : UInt8) (x y : Tx) (X Y : List Tx) : ncmp ((c :: x) :: X) ((c :: y) :: Y) = ncmp (x :: X) (y :: Y) := by
  rw [ncmp, ncmp, bl_same]
  have : ((c :: x) == (c :: y)) = (x == y) := by rw [Bool.eq_iff_iff]; simp
  rw [this]
theorem nms_slash (r : Tx) : nms (47 :: r) = [] :: nms r := by rw [nms, if_pos rfl]
theorem nms_byte {c : UInt8} (h : c ≠ 47) (r : Tx) : ∃ n ns, nms r = n :: ns ∧ nms (c :: r) = (c :: n) :: ns := by
  cases hr : nms r with
  | nil => exact absurd hr (nms_ne r)
  | cons n ns => exact ⟨n, ns, rfl, by rw [nms, if_neg h, hr]⟩
theorem ncmp_nms : ∀ (a b : Tx), ncmp (nms a) (nms b) = cmpT a b
  | [], [] => rfl
  | [], d :: s => by
    show ncmp [[]] (nms (d :: s)) = -1
    by_cases h : d = 47
    · rw [h, nms_slash, ncmp_same]
      cases hs : nms s with
      | nil => exact absurd hs (nms_ne s)
      | cons n ns => rfl
    · obtain ⟨n, ns, _, h2⟩ := nms_byte h s
      rw [h2, ncmp, bl_cons, if_pos rfl]
  | c :: r, [] => by
    show ncmp (nms (c :: r)) [[]] = 1
    by_cases h : c = 47
    · rw [h, nms_slash, ncmp_same]
      cases hs : nms r with
      | nil => exact absurd hs (nms_ne r)
      | cons n ns => rfl
    · obtain ⟨n, ns, _, h2⟩ := nms_byte h r
      rw [h2, ncmp, bl_nil]; rfl
  | c :: r, d :: s => by
    have ih := ncmp_nms r s
    rw [cmpT]
    by_cases hcd : c = d
    · subst hcd
      rw [if_pos rfl]
      by_cases h : c = 47
      · rw [h, nms_slash, nms_slash, ncmp_same, ih]
      · obtain ⟨n, ns, h1, h2⟩ := nms_byte h r
        obtain ⟨m, ms, h3, h4⟩ := nms_byte h s
        rw [h2, h4, ncmp_cons, ← h1, ← h3, ih]
    · rw [if_neg hcd]
      by_cases h : c = 47
      · have hd : d ≠ 47 := fun e => hcd (by rw [h, e])
        obtain ⟨m, ms, _, h4⟩ := nms_byte hd s
        rw [h, nms_slash, h4, ncmp, bl_cons, if_pos rfl]
        unfold rankB
        rw [if_pos rfl, if_neg hd]
        exact (cmpI_lt (by omega)).symm
      · obtain ⟨n, ns, _, h2⟩ := nms_byte h r
        by_cases hd : d = 47
        · rw [hd, nms_slash, h2, ncmp, bl_nil]
          unfold rankB
          rw [if_pos rfl, if_neg h]
          exact (cmpI_gt (by omega)).symm
        · obtain ⟨m, ms, _, h4⟩ := nms_byte hd s
          rw [h2, h4, ncmp, bl_diff hcd]
          unfold rankB
          rw [if_neg h, if_neg hd]
          have he : ((c :: n) == (d :: m)) = false := by rw [beq_eq_false_iff_ne]; intro e; injection e with e1 _; exact hcd e1
          by_cases hlt : c < d
          · rw [decide_eq_true hlt, if_pos rfl]
            have h5 : c.toNat < d.toNat := UInt8.lt_iff_toNat_lt.1 hlt
            exact (cmpI_lt (by omega)).symm
          · rw [decide_eq_false hlt, he]
            have h5 : ¬ c.toNat < d.toNat := fun k => hlt (UInt8.lt_iff_toNat_lt.2 k)
            have h6 : c.toNat ≠ d.toNat := fun k => hcd (UInt8.toNat_inj.1 k)
            exact (cmpI_gt (by omega)).symm
theorem ncmp_end (X Y : List Tx) (h : X = [] ∨ Y = []) : ncmp X Y = Lib.compareInt X.length Y.length := by
  cases X with
  | nil => cases Y with
    | nil => rfl
    | cons y Y => exact (cmpI_lt (by simp)).symm
  | cons x X => cases Y with
    | nil => exact (cmpI_gt (by simp)).symm
    | cons y Y => rcases h with h | h <;> cases h
/-- Each ahead of the next ones. -/
abbrev Asc (R : List Tx) : Prop := R.Pairwise fun x y => cmpT x y = -1
/-- What Sort answers of L: the Good ones, each once, in order. -/
def Srt (L R : List Tx) : Prop := Asc R ∧ ∀ x, x ∈ R ↔ x ∈ L ∧ okPath x = true
theorem cmpL_flip {x y : Tx} (h : cmpT x y = -1) : cmpT y x = 1 := by rw [cmpT_neg, h]; rfl
theorem asc_unique : ∀ {A B : List Tx}, Asc A → Asc B → (∀ x, x ∈ A ↔ x ∈ B) → A = B
  | [], [], _, _, _ => rfl
  | [], b :: B, _, _, h => absurd ((h b).2 (List.mem_cons_self ..)) (by simp)
  | a :: A, [], _, _, h => absurd ((h a).1 (List.mem_cons_self ..)) (by simp)
  | a :: A, b :: B, ha, hb, h => by
    obtain ⟨ha1, ha2⟩ := List.pairwise_cons.1 ha
    obtain ⟨hb1, hb2⟩ := List.pairwise_cons.1 hb
    have hab : a = b := by
      rcases List.mem_cons.1 ((h a).1 (List.mem_cons_self ..)) with e | e
      · exact e
      · rcases List.mem_cons.1 ((h b).2 (List.mem_cons_self ..)) with e2 | e2
        · exact e2.symm
        · have h1 := ha1 b e2
          have h2 := hb1 a e
          rw [cmpL_flip h2] at h1
          cases h1
    subst hab
    have hn : ∀ {C : List Tx}, (∀ x ∈ C, cmpT a x = -1) → a ∉ C := fun hc hm => by
      have h1 := hc a hm
      rw [cmpT_self] at h1
      cases h1
    rw [asc_unique ha2 hb2 (fun x => ?_)]
    constructor
    · intro hx
      rcases List.mem_cons.1 ((h x).1 (List.mem_cons_of_mem _ hx)) with e | e
      · exact absurd (e ▸ hx) (hn ha1)
      · exact e
    · intro hx
      rcases List.mem_cons.1 ((h x).2 (List.mem_cons_of_mem _ hx)) with e | e
      · exact absurd (e ▸ hx) (hn hb1)
      · exact e
theorem srt_unique {L A B : List Tx} (ha : Srt L A) (hb : Srt L B) : A = B := asc_unique ha.1 hb.1 fun x => (ha.2 x).trans (hb.2 x).symm
theorem srt_again {L R : List Tx} (h : Srt L R) : Srt R R := ⟨h.1, fun x => ⟨fun hx => ⟨hx, ((h.2 x).1 hx).2⟩, fun hx => hx.1⟩⟩
theorem srt_bad {L R : List Tx} {x : Tx} (h : Srt L R) (hx : okPath x = false) : Srt (L ++ [x]) R := ⟨h.1, fun y => by
  rw [h.2 y, List.mem_append, List.mem_singleton]
  constructor
  · exact fun ⟨h1, h2⟩ => ⟨.inl h1, h2⟩
  · rintro ⟨h1 | rfl, h2⟩
    · exact ⟨h1, h2⟩
    · rw [hx] at h2; cases h2⟩
theorem srt_same {L R : List Tx} {x : Tx} (h : Srt L R) (hx : x ∈ R) : Srt (L ++ [x]) R := ⟨h.1, fun y => by
  rw [List.mem_append, List.mem_singleton]
  constructor
  · intro hy; have := (h.2 y).1 hy; exact ⟨.inl this.1, this.2⟩
  · rintro ⟨h1 | rfl, h2⟩
    · exact (h.2 y).2 ⟨h1, h2⟩
    · exact hx⟩
theorem cmpL_back {x y : Tx} (h : cmpT x y = 1) : cmpT y x = -1 := by rw [cmpT_neg, h]
theorem before_all {R : List Tx} {x : Tx} {k : Nat} (h : Asc R) (hk : k < R.length) (h1 : cmpT R[k] x = -1) : ∀ y ∈ R.take (k + 1), cmpT y x = -1 := by
  intro y hy
  obtain ⟨j, hj, rfl⟩ := List.mem_take_iff_getElem.1 hy
  by_cases e : j = k
  · subst e; exact h1
  · have h2 := List.pairwise_iff_getElem.1 h j k (by omega) hk (by omega)
    have h3 := cmpT_trans (show cmpT R[j] R[k] ≤ 0 by omega) (show cmpT R[k] x ≤ 0 by omega)
    rcases cmpT_vals R[j] x with e1 | e1 | e1
    · exact e1
    · exfalso
      have e2 := cmpT_zero.1 e1
      rw [e2] at h2
      have := cmpT_neg x R[k]
      omega
    · omega
theorem after_more {R : List Tx} {x : Tx} {k : Nat} (hk : k < R.length) (h1 : cmpT R[k] x = 1) (h : ∀ y ∈ R.drop (k + 1), cmpT y x = 1) : ∀ y ∈ R.drop k, cmpT y x = 1 := by
  rw [List.drop_eq_getElem_cons hk]
  intro y hy
  rcases List.mem_cons.1 hy with rfl | hy
  · exact h1
  · exact h y hy
theorem srt_put {L R : List Tx} {x : Tx} {k : Nat} (h : Srt L R) (hx : okPath x = true) (ha : ∀ y ∈ R.drop k, cmpT y x = 1) (hb : ∀ y ∈ R.take k, cmpT y x = -1) : Srt (L ++ [x]) (R.take k ++ [x] ++ R.drop k) := by
  have hr : Asc (R.take k ++ R.drop k) := by rw [List.take_append_drop]; exact h.1
  obtain ⟨h1, h2, h3⟩ := List.pairwise_append.1 hr
  refine ⟨List.pairwise_append.2 ⟨List.pairwise_append.2 ⟨h1, by simp, fun y hy z hz => ?_⟩, h2, fun y hy z hz => ?_⟩, fun y => ?_⟩
  · rw [List.mem_singleton.1 hz]; exact hb y hy
  · rcases List.mem_append.1 hy with hy | hy
    · exact h3 y hy z hz
    · rw [List.mem_singleton.1 hy]; exact cmpL_back (ha z hz)
  · have hm : y ∈ R ↔ y ∈ R.take k ∨ y ∈ R.drop k := by rw [← List.mem_append, List.take_append_drop]
    rw [List.mem_append, List.mem_append, List.mem_append, List.mem_singleton]
    constructor
    · rintro ((h4 | rfl) | h4)
      · have := (h.2 y).1 (hm.2 (.inl h4)); exact ⟨.inl this.1, this.2⟩
      · exact ⟨.inr rfl, hx⟩
      · have := (h.2 y).1 (hm.2 (.inr h4)); exact ⟨.inl this.1, this.2⟩
    · rintro ⟨h4 | rfl, h5⟩
      · rcases hm.1 ((h.2 y).2 ⟨h4, h5⟩) with h6 | h6
        · exact .inl (.inl h6)
        · exact .inr h6
      · exact .inl (.inr rfl)
end Go.Proofs.YtmjonlffhhehjaaGreatDoor
/- A value that reads as texts; a row of texts that a call owns; one text put behind it. No condition. -/
namespace Go.Proofs.YtmjonlffhhehjaaGreatDoor
open Go.RowKit Go.Sort
theorem str_info : (Tryz.prog.info? 9).map (fun i => (i.zero, i.size, i.bytes)) = some (some (.string ⟨#[]⟩), 1, 16) := by kernel_rfl
theorem own_base7 {w : World} {base n : Nat} {e : TypeId} {v : Value} {xs : List Value} (h : w.ownsRow base e 1 v n xs) : ∀ k, Value.ownBlock v = some k → base ≤ k := by
  intro k hk
  rcases h.2 with ⟨rfl, _⟩ | ⟨g, cap, cur, rfl, hb, _⟩
  · cases hk
  · have e : g = k := by simpa [Value.ownBlock] using hk
    omega
theorem own_below7 {w w' : World} {base n : Nat} {e : TypeId} {v : Value} {xs : List Value} (h : w.ownsRow base e 1 v n xs) (hb : RowKit.Below w.heap.size w w') : w'.ownsRow base e 1 v n xs :=
  h.kept (row := none) ⟨hb.os, hb.tape, hb.output, hb.size, fun k hk _ => hb.block k hk⟩ (by
    rcases h.2 with ⟨rfl, _⟩ | ⟨k, cap, cur, rfl, _⟩
    · exact .inl rfl
    · exact .inr (by simp [Value.ownBlock]))
/-- One text is put behind a row that the call owns. -/
theorem wp_addT {ops : Array Oper} {rest : List Oper} {o : Oper} {a : Act} {Q : Exit → Act → World → Prop}
    (hgd : o.guard = none) (sl x : Operand) (ho : o.op = .call { callee := .builtin .append, args := #[sl, x], argTypes := #[191, 191] }) {w : World} {base : Nat} {v : Value} {xs : List Value} (R : w.ownsRow base 9 1 v xs.length xs) (hbase : base ≤ w.heap.size)
    (hs : a.eval sl = v) (g : Nat) (u : Value) (hx : a.eval x = .slice (some ⟨g, 0, none⟩) 1 1) (hc : w.cell? ⟨g, 0, none⟩ = some u) (hu : u.oneCell' = true) (hn : xs.length ≤ 1000000)
    (h : ∀ v' w', w'.ownsRow base 9 1 v' (xs ++ [u]).length (xs ++ [u]) → Below base w w' → wpList Tryz.prog ops Q rest (a.put o.dst v') w') : wpList Tryz.prog ops Q (o :: rest) a w := by
  obtain ⟨i0, hi, hz0, hz1, hz2⟩ := info_parts str_info
  refine wpList_append_own _ hgd sl x 191 ho base 9 i0 (.string ⟨#[]⟩) 1 16 Tryz.underlying191 hi hz0 hz1 hz2 rfl (by decide) v xs.length xs hs R ⟨g, 0, none⟩ 1 1 [u] hx rfl ?_ ?_ (by unfold maxLen; omega) ?_ hbase
    fun v' w' ho' hg' _ => h v' w' (by rw [List.length_append]; exact ho') ((Below.refl base w).grown hg' hbase (fun k hk => own_base7 R k hk))
  · intro j y hj
    cases j with
    | zero => simp at hj; subst hj; simpa [Addr.add] using hc
    | succ j => simp at hj
  · intro y hy; simp at hy; subst hy; exact hu
  · exact Nat.le_trans (Nat.mul_le_mul (show xs.length + 1 ≤ 1000001 by omega) (Nat.le_refl 16)) (by decide)
/-- The value v reads as these texts. -/
def Ts (w : World) (v : Value) (L : List Tx) : Prop := ∃ q c, v = .slice q L.length c ∧ L.length ≤ c ∧ Sees w w.heap.size q (L.map encStr)
theorem Ts.keep {w w' : World} {v : Value} {L : List Tx} (h : Ts w v L) (hb : Below w.heap.size w w') : Ts w' v L := by
  obtain ⟨q, c, h1, h2, h3⟩ := h
  exact ⟨q, c, h1, h2, (h3.keep hb).more hb.size⟩
theorem Ts.nil (w : World) : Ts w (.slice none 0 0) [] := ⟨none, 0, rfl, Nat.le_refl _, Sees.nil _ _ _⟩
theorem Ts.own {w : World} {base n : Nat} {v : Value} {L : List Tx} (h : w.ownsRow base 9 1 v n (L.map encStr)) : Ts w v L := by
  have hn : L.length = n := by have := h.1; simpa using this
  subst hn
  rcases h.2 with ⟨rfl, h0⟩ | ⟨g, cap, cur, rfl, hb, hg, h1, _⟩
  · have : L = [] := List.eq_nil_of_length_eq_zero h0
    subst this
    exact Ts.nil w
  · refine ⟨_, cap, rfl, h1, fun _ => ⟨_, rfl, (Array.getElem?_eq_some_iff.1 hg).1, ?_⟩⟩
    exact h.cells (g := g) rfl
/-- One text is put behind a row that the call owns (more room than wp_addT). -/
theorem wp_addU {ops : Array Oper} {rest : List Oper} {o : Oper} {a : Act} {Q : Exit → Act → World → Prop}
    (hgd : o.guard = none) (sl x : Operand) (ho : o.op = .call { callee := .builtin .append, args := #[sl, x], argTypes := #[191, 191] }) {w : World} {base : Nat} {v : Value} {xs : List Value} (R : w.ownsRow base 9 1 v xs.length xs) (hbase : base ≤ w.heap.size)
    (hs : a.eval sl = v) (g : Nat) (u : Value) (hx : a.eval x = .slice (some ⟨g, 0, none⟩) 1 1) (hc : w.cell? ⟨g, 0, none⟩ = some u) (hu : u.oneCell' = true) (hn : xs.length ≤ 2000000)
    (h : ∀ v' w', w'.ownsRow base 9 1 v' (xs ++ [u]).length (xs ++ [u]) → Below base w w' → wpList Tryz.prog ops Q rest (a.put o.dst v') w') : wpList Tryz.prog ops Q (o :: rest) a w := by
  obtain ⟨i0, hi, hz0, hz1, hz2⟩ := info_parts str_info
  refine wpList_append_own _ hgd sl x 191 ho base 9 i0 (.string ⟨#[]⟩) 1 16 Tryz.underlying191 hi hz0 hz1 hz2 rfl (by decide) v xs.length xs hs R ⟨g, 0, none⟩ 1 1 [u] hx rfl ?_ ?_ (by unfold maxLen; omega) ?_ hbase
    fun v' w' ho' hg' _ => h v' w' (by rw [List.length_append]; exact ho') ((Below.refl base w).grown hg' hbase (fun k hk => own_base7 R k hk))
  · intro j y hj
    cases j with
    | zero => simp at hj; subst hj; simpa [Addr.add] using hc
    | succ j => simp at hj
  · intro y hy; simp at hy; subst hy; exact hu
  · exact Nat.le_trans (Nat.mul_le_mul (show xs.length + 1 ≤ 2000001 by omega) (Nat.le_refl 16)) (by decide)
theorem gtr_text (t : TypeId) (a b : ByteArray) : binOp .gtr t (.string a) (.string b) = pure (.bool !(Op.bytesLess a.toList b.toList || a.toList == b.toList)) := by simp [binOp, Op.stringOp]
/-- As Ts, and a nil slice has no room. -/
def Tn (w : World) (v : Value) (L : List Tx) : Prop := ∃ q c, v = .slice q L.length c ∧ L.length ≤ c ∧ (q = none → c = 0) ∧ Sees w w.heap.size q (L.map encStr)
theorem Tn.ts {w : World} {v : Value} {L : List Tx} (h : Tn w v L) : Ts w v L := by
  obtain ⟨q, c, h1, h2, _, h3⟩ := h
  exact ⟨q, c, h1, h2, h3⟩
theorem Tn.keep {w w' : World} {v : Value} {L : List Tx} (h : Tn w v L) (hb : Below w.heap.size w w') : Tn w' v L := by
  obtain ⟨q, c, h1, h2, h3, h4⟩ := h
  exact ⟨q, c, h1, h2, h3, (h4.keep hb).more hb.size⟩
theorem Tn.nil (w : World) : Tn w (.slice none 0 0) [] := ⟨none, 0, rfl, Nat.le_refl _, fun _ => rfl, Sees.nil _ _ _⟩
theorem Tn.own {w : World} {base : Nat} {v : Value} {L : List Tx} (h : w.ownsRow base 9 1 v L.length (L.map encStr)) : Tn w v L := by
  rcases h.2 with ⟨rfl, h0⟩ | ⟨g, cap, cur, rfl, hb, hg, h1, _⟩
  · have : L = [] := List.eq_nil_of_length_eq_zero h0
    subst this
    exact Tn.nil w
  · refine ⟨_, cap, rfl, h1, fun e => by (cases e), fun _ => ⟨_, rfl, (Array.getElem?_eq_some_iff.1 hg).1, ?_⟩⟩
    exact h.cells (g := g) rfl
end Go.Proofs.YtmjonlffhhehjaaGreatDoor
/- Contract: the document's own names. Condition: a text of at most 2^20 bytes. -/
namespace Go.Proofs.YtmjonlffhhehjaaGreatDoor
open Go.RowKit Go.Sort
set_option maxHeartbeats 4000000 in
set_option maxRecDepth 100000 in
theorem pnames_any (s : ByteArray) (hs : s.size ≤ 1048576) (w : World) :
    Calls Tryz.prog 129 #[.string s] w fun e w' => (∃ v, e = .returned v ∧ Ts w' v (nms s.data.toList)) ∧ Below w.heap.size w w' := by
  have hsz : s.data.toList.length = s.size := rfl
  have HNIL := Lib.hid (World.ownsRow_nil w w.heap.size 9 1)
  have HST : Hid (NSt s.data.toList [] 0 0) := Lib.hid (.inl ⟨by omega, Nat.le_refl _, by simp, by simp⟩)
  have HSZ := Lib.hid hsz
  clear hsz
  go_enter Tryz.func129, Tryz.ntmps129
  go_wp2_with fail
  go_loopw [3, 4, 5] (fun v vf vi wr => ∃ (G : List Tx) (f i : Nat), i ≤ s.size + 1 ∧ f ≤ i ∧ vi = .int .i64 i ∧ vf = .int .i64 f ∧ NSt s.data.toList G f i ∧ wr.ownsRow w.heap.size 9 1 v (G.map encStr).length (G.map encStr) ∧ Below w.heap.size w wr) (fun _ _ vi _ => s.size + 1 - (intOf vi).toNat)
  case atStart => exact ⟨[], 0, 0, by omega, Nat.le_refl _, rfl, rfl, HST.out, HNIL.out, Below.refl _ _⟩
  case round =>
    rename_i wr
    obtain ⟨G, f, i, hi, hfi, rfl, rfl, hst, hrow, hB⟩ := hrel
    have HROW := Lib.hid hrow
    have HB := Lib.hid hB
    have HS := Lib.hid hst
    have hgl := hst.len
    rw [HSZ.out] at hgl
    have kw : IntKind.i64.wrap ((i : Int) + 1) = ((i + 1 : Nat) : Int) := by rw [IntWalk.i64_in _ (by omega)]; omega
    clear hrow hB hst
    by_cases hle : i ≤ s.size
    · have HLEN : Hid ((G.map encStr).length ≤ 2000000) := Lib.hid (by rw [List.length_map]; omega)
      have hcut : s.extract f i = ⟨((s.data.toList.drop f).take (i - f)).toArray⟩ := Lib.extract_eq s f i
      have HCUT := Lib.hid hcut
      have hge : w.heap.size ≤ wr.heap.size := HB.out.size
      clear hcut
      have HREL : Hid (∀ (v3 : Value) (w3 : World), w3.ownsRow w.heap.size 9 1 v3 (G.map encStr ++ [Value.string (s.extract f i)]).length (G.map encStr ++ [Value.string (s.extract f i)]) → Below w.heap.size (wr.alloc (.cells #[.string (s.extract f i)] 9)) w3 → NSt s.data.toList (G ++ [(s.data.toList.drop f).take (i - f)]) (i + 1) (i + 1) →
          ∃ (G' : List Tx) (f' i' : Nat), i' ≤ s.size + 1 ∧ f' ≤ i' ∧ (Value.int .i64 ((i : Int) + 1)) = .int .i64 i' ∧ (Value.int .i64 ((i : Int) + 1)) = .int .i64 f' ∧ NSt s.data.toList G' f' i' ∧ w3.ownsRow w.heap.size 9 1 v3 (G'.map encStr).length (G'.map encStr) ∧ Below w.heap.size w w3) :=
        Lib.hid (fun v3 w3 h1 h2 h3 => by
          rw [HCUT.out] at h1
          rw [show G.map encStr ++ [Value.string ⟨((s.data.toList.drop f).take (i - f)).toArray⟩] = (G ++ [(s.data.toList.drop f).take (i - f)]).map encStr by rw [List.map_append]; rfl] at h1
          exact ⟨_, i + 1, i + 1, by omega, Nat.le_refl _, by go_num, by go_num, h3, h1, (HB.out.alloc HB.out.size _).trans h2⟩)
      by_cases heq : i = s.size
      · subst heq
        have HS3 := Lib.hid HS.out.last
        rw [HSZ.out] at HS3
        go_wp2_with (refine wp_addU rfl (.tmp 22) (.tmp 27) rfl (base := w.heap.size) (HROW.out.alloc (.cells #[.string (s.extract f s.size)] 9)) (by simp; omega) rfl wr.heap.size (.string (s.extract f s.size)) rfl (by simp) rfl HLEN.out ?_; intro v3 w3 h1 h2; have HROW2 := Lib.hid h1; have HB5 := Lib.hid h2; clear h1 h2 HROW)
        refine ⟨HREL.out _ _ HROW2.out HB5.out HS3.out, ?_⟩
        simp [intOf] <;> omega
      · have hlt : i < s.size := by omega
        have hget : s.data.toList[i]'hlt = s[i]'hlt := by
          have h1 := byte_at s i hlt
          exact (List.getElem?_eq_some_iff.1 h1).2
        have k0 : ¬ (i : Int) = (s.size : Int) := by omega
        by_cases h47 : s[i]'hlt = 47
        · have HS3 := Lib.hid (HS.out.cut (show i < s.data.toList.length from hlt) (hget.trans h47))
          have k1 : ((s[i]'hlt).toNat : Int) = 47 := congrArg (fun c : UInt8 => (c.toNat : Int)) h47
          clear hget
          go_wp2_with (refine wp_addU rfl (.tmp 22) (.tmp 27) rfl (base := w.heap.size) (HROW.out.alloc (.cells #[.string (s.extract f i)] 9)) (by simp; omega) rfl wr.heap.size (.string (s.extract f i)) rfl (by simp) rfl HLEN.out ?_; intro v3 w3 h1 h2; have HROW2 := Lib.hid h1; have HB5 := Lib.hid h2; clear h1 h2 HROW)
          refine ⟨HREL.out _ _ HROW2.out HB5.out HS3.out, ?_⟩
          simp [intOf]; omega
        · have HS3 := Lib.hid (HS.out.on (show i < s.data.toList.length from hlt) (by rw [hget]; exact h47))
          have k1 : ¬ ((s[i]'hlt).toNat : Int) = 47 := fun e => h47 (UInt8.toNat_inj.1 (by show (s[i]'hlt).toNat = 47; omega))
          have k2 : ((i : Int) == (s.size : Int)) = false := by rw [beq_eq_false_iff_ne]; exact k0
          have k3 : (((s[i]'hlt).toNat : Int) == 47) = false := by rw [beq_eq_false_iff_ne]; exact k1
          clear hget h47 HREL
          go_wp2_with fail
          go_roundw
          case rel => exact ⟨G, f, i + 1, by omega, by omega, by go_num, rfl, HS3.out, HROW.out, HB.out⟩
          case measure => simp [intOf]; omega
    · have hi2 : i = s.size + 1 := by omega
      have hg : G = nms s.data.toList := by
        rcases HS.out with ⟨h1, _⟩ | ⟨_, h2⟩
        · rw [HSZ.out] at h1; omega
        · exact h2
      have k0 : ¬ (i : Int) ≤ (s.size : Int) := by omega
      have HT := Lib.hid (Ts.own HROW.out)
      rw [hg] at HT
      clear hg HROW
      go_wp2_with fail
      go_ret
      exact ⟨⟨_, rfl, HT.out⟩, HB.out⟩
end Go.Proofs.YtmjonlffhhehjaaGreatDoor
/- Contract: the document's own Good. Condition: a text of at most 2^20 bytes. -/
namespace Go.Proofs.YtmjonlffhhehjaaGreatDoor
open Go.RowKit
set_option maxHeartbeats 8000000 in
set_option maxRecDepth 100000 in
theorem rpgood_any (s : ByteArray) (hs : s.size ≤ 1048576) (w : World) :
    Calls Tryz.prog 95 #[.string s] w fun e w' => e = .returned (.bool (okPath s.data.toList)) ∧ Below w.heap.size w w' := by
  have HN := Lib.hid (pnames_any s hs w)
  have hcl : (nms s.data.toList).length ≤ 1048577 := by rw [nms_count]; have : s.data.toList.count 47 ≤ s.data.toList.length := List.count_le_length; have : s.data.toList.length = s.size := rfl; omega
  have hns : ∀ n ∈ nms s.data.toList, n.length ≤ 1048576 := fun n hn => by
    have h1 := nms_len n hn
    have h2 : s.data.toList.length = s.size := rfl
    omega
  obtain ⟨r, hr⟩ : ∃ r, okPath s.data.toList = r := ⟨_, rfl⟩
  have HR := Lib.hid hr
  rw [hr]
  clear hr
  unfold okPath at HR
  generalize nms s.data.toList = N at *
  go_enter Tryz.func95, Tryz.ntmps95
  go_wp2_with fail
  refine (HN.out).mono ?_
  rintro e w2 ⟨⟨v, rfl, q, c, rfl, hc, hsee⟩, hb⟩
  have HB := Lib.hid hb
  have HS := Lib.hid hsee
  clear hb hsee hc
  go_wp2_with fail
  go_loop [4, 5, 6] (fun vi _ _ => ∃ i : Nat, i ≤ N.length ∧ vi = .int .i64 i ∧ (N.take i).all okName = true) (fun vi _ _ => N.length - (intOf vi).toNat)
  case atStart => exact ⟨0, by omega, rfl, rfl⟩
  case round =>
    obtain ⟨i, hi, rfl, hall⟩ := hrel
    have HALL := Lib.hid hall
    clear hall
    by_cases hlt : i < N.length
    · obtain ⟨ad, rfl, hap, hcell⟩ := HS.out.get (by rw [List.length_map]; omega)
      obtain ⟨x, hx⟩ : ∃ x : ByteArray, x = ⟨N[i].toArray⟩ := ⟨_, rfl⟩
      have hxb : x.data.toList = N[i] := by rw [hx]
      have c1 : w2.cell? (ad.add i) = some (.string x) := hcell i (.string x) (by rw [List.getElem?_map, List.getElem?_eq_getElem hlt, hx]; rfl)
      have hnx : x.size ≤ 1048576 := by have := hns N[i] (List.getElem_mem hlt); rw [← hxb] at this; exact this
      have htk : (N.take (i + 1)).all okName = okName x.data.toList := by
        rw [List.take_add_one, List.getElem?_eq_getElem hlt, List.all_append, HALL.out, hxb]; simp
      have HTK := Lib.hid htk
      have hfail : okName x.data.toList = false → r = false := fun h => by
        rw [← HR.out]
        have : N.all okName = false := by
          rw [← List.take_append_drop (i + 1) N, List.all_append, htk, h]; rfl
        rw [this, Bool.and_false]
      have HF := Lib.hid hfail
      have hxl : x.data.toList.length = x.size := rfl
      have hkl : (i : Int) < (N.length : Int) := by omega
      have hlx : x.toList = x.data.toList := Lib.toList_data x
      clear hcell hap hx hxb htk hfail hlt
      by_cases h1 : x.size < 1
      · have hr := HF.out (okName_no (.inl (by omega)))
        subst hr
        have k1 : (x.size : Int) < 1 := by omega
        go_wp2_with fail
        go_ret
        exact ⟨rfl, HB.out⟩
      by_cases h2 : 16 < x.size
      · have hr := HF.out (okName_no (.inr (.inl (by omega))))
        subst hr
        have k1 : ¬ (x.size : Int) < 1 := by omega
        have k2 : (16 : Int) < (x.size : Int) := by omega
        go_wp2_with fail
        go_ret
        exact ⟨rfl, HB.out⟩
      have k1 : ¬ (x.size : Int) < 1 := by omega
      have k2 : ¬ (16 : Int) < (x.size : Int) := by omega
      by_cases h3 : x.data.toList = [46]
      · have hr := HF.out (okName_no (.inr (.inr (.inl h3))))
        subst hr
        have k3 : (x.data.toList == [46]) = true := by rw [beq_iff_eq]; exact h3
        clear h3 h1 h2
        go_wp2_with fail
        go_ret
        exact ⟨rfl, HB.out⟩
      by_cases h4 : x.data.toList = [46, 46]
      · have hr := HF.out (okName_no (.inr (.inr (.inr h4))))
        subst hr
        have k3 : (x.data.toList == [46]) = false := by rw [beq_eq_false_iff_ne]; exact h3
        have k4 : (x.data.toList == [46, 46]) = true := by rw [beq_iff_eq]; exact h4
        clear h3 h4 h1 h2
        go_wp2_with fail
        go_ret
        exact ⟨rfl, HB.out⟩
      have k3 : (x.data.toList == [46]) = false := by rw [beq_eq_false_iff_ne]; exact h3
      have k4 : (x.data.toList == [46, 46]) = false := by rw [beq_eq_false_iff_ne]; exact h4
      have hok := okName_all (n := x.data.toList) (by omega) (by omega) h3 h4
      rw [hok] at HTK HF
      clear h3 h4 h1 h2 hok
      go_wp2_with fail
      go_loop [5, 6] (fun vk _ => ∃ k : Nat, k ≤ x.size ∧ vk = .int .i64 k ∧ (x.data.toList.take k).all okByte = true) (fun vk _ => x.size - (intOf vk).toNat)
      case atStart => exact ⟨0, by omega, rfl, rfl⟩
      case round =>
        obtain ⟨k, hk, rfl, hak⟩ := hrel
        by_cases hkx : k < x.size
        · have hat := all_take_succ (byte_at x k hkx)
          rw [hak, Bool.true_and] at hat
          have HAT := Lib.hid hat
          have hks : (k : Int) < (x.size : Int) := by omega
          clear hat hak
          rcases okByte_cases (x[k]'hkx) _ rfl with ⟨ho, hc⟩ | ⟨ho, h46, h45, h95, hc⟩
          · have HOK := Lib.hid ho
            clear ho
            rcases hc with ⟨g1, g2⟩ | ⟨g1, g2, g3⟩ | g1 | g1 | g1
            · go_wp2_with fail
              go_round
              case rel => exact ⟨k + 1, by omega, by go_num, by rw [HAT.out, HOK.out]⟩
              case measure => simp [intOf]; omega
            · go_wp2_with fail
              go_round
              case rel => exact ⟨k + 1, by omega, by go_num, by rw [HAT.out, HOK.out]⟩
              case measure => simp [intOf]; omega
            · go_wp2_with fail
              go_round
              case rel => exact ⟨k + 1, by omega, by go_num, by rw [HAT.out, HOK.out]⟩
              case measure => simp [intOf]; omega
            · go_wp2_with fail
              go_round
              case rel => exact ⟨k + 1, by omega, by go_num, by rw [HAT.out, HOK.out]⟩
              case measure => simp [intOf]; omega
            · go_wp2_with fail
              go_round
              case rel => exact ⟨k + 1, by omega, by go_num, by rw [HAT.out, HOK.out]⟩
              case measure => simp [intOf]; omega
          · have hrf := HF.out (by rw [← List.take_append_drop (k + 1) x.data.toList, List.all_append, HAT.out, ho]; rfl)
            subst hrf
            have n46 : (((x[k]'hkx).toNat : Int) != 46) = true := by simp [h46]
            have n45 : (((x[k]'hkx).toNat : Int) != 45) = true := by simp [h45]
            have n95 : (((x[k]'hkx).toNat : Int) != 95) = true := by simp [h95]
            clear ho
            rcases hc with ⟨g1, g2⟩ | ⟨g1, g2, g3⟩ | ⟨g1, g2, g3, g4⟩
            · go_wp2_with fail
              go_ret
              exact ⟨rfl, HB.out⟩
            · go_wp2_with fail
              go_ret
              exact ⟨rfl, HB.out⟩
            · go_wp2_with fail
              go_ret
              exact ⟨rfl, HB.out⟩
        · have hke : k = x.size := by omega
          subst hke
          rw [List.take_of_length_le (show x.data.toList.length ≤ x.size from Nat.le_refl _)] at hak
          have HNX : Hid ((N.take (i + 1)).all okName = true) := Lib.hid (HTK.out.trans hak)
          have hks : ¬ (x.size : Int) < (x.size : Int) := by omega
          clear hak hkx
          go_wp2_with fail
          go_round
          case rel => exact ⟨i + 1, by omega, by go_num, HNX.out⟩
          case measure => simp [intOf]; omega
    · have hil : i = N.length := by omega
      subst hil
      have hN := HALL.out
      rw [List.take_length] at hN
      have hr := HR.out
      rw [hN, Bool.and_true] at hr
      have hkl : ¬ (N.length : Int) < (N.length : Int) := by omega
      by_cases h4 : N.length ≤ 4
      · rw [decide_eq_true h4] at hr
        subst hr
        have k4 : (N.length : Int) ≤ 4 := by omega
        clear hN h4 hlt
        go_wp2_with fail
        go_ret
        exact ⟨by first | rfl | simp, HB.out⟩
      · rw [decide_eq_false h4] at hr
        subst hr
        have k4 : ¬ (N.length : Int) ≤ 4 := by omega
        clear hN h4 hlt
        go_wp2_with fail
        go_ret
        exact ⟨by first | rfl | simp, HB.out⟩
end Go.Proofs.YtmjonlffhhehjaaGreatDoor
/- Contract: the document's own Cmp. Condition: texts of at most 2^20 bytes. -/
namespace Go.Proofs.YtmjonlffhhehjaaGreatDoor
open Go.RowKit
set_option maxHeartbeats 8000000 in
set_option maxRecDepth 100000 in
theorem rpcmp_any (a b : ByteArray) (ha : a.size ≤ 1048576) (hb : b.size ≤ 1048576) (w : World) :
    Calls Tryz.prog 96 #[.string a, .string b] w fun e w' => e = .returned (.int .i64 (cmpT a.data.toList b.data.toList)) ∧ Below w.heap.size w w' := by
  have HNA := Lib.hid (fun w1 => pnames_any a ha w1)
  have HNB := Lib.hid (fun w1 => pnames_any b hb w1)
  have hcx : (nms a.data.toList).length ≤ 1048577 := by rw [nms_count]; have : a.data.toList.count 47 ≤ a.data.toList.length := List.count_le_length; have : a.data.toList.length = a.size := rfl; omega
  have hcy : (nms b.data.toList).length ≤ 1048577 := by rw [nms_count]; have : b.data.toList.count 47 ≤ b.data.toList.length := List.count_le_length; have : b.data.toList.length = b.size := rfl; omega
  obtain ⟨V, hV⟩ : ∃ V, ncmp (nms a.data.toList) (nms b.data.toList) = V := ⟨_, rfl⟩
  rw [← ncmp_nms, hV]
  generalize nms a.data.toList = X at *
  generalize nms b.data.toList = Y at *
  have HV := Lib.hid hV
  clear hV
  go_enter Tryz.func96, Tryz.ntmps96
  go_wp2_with fail
  refine (HNA.out _).mono ?_
  rintro e w1 ⟨⟨v, rfl, q, c, rfl, hc, hx⟩, hb1⟩
  have HB1 := Lib.hid hb1
  have HX1 := Lib.hid hx
  clear hb1 hx hc
  go_wp2_with fail
  refine (HNB.out _).mono ?_
  rintro e w2 ⟨⟨v, rfl, q2, c2, rfl, hc2, hy⟩, hb2⟩
  have HX2 := Lib.hid ((HX1.out.keep hb2).more hb2.size)
  have HY2 := Lib.hid hy
  have HB2 := Lib.hid (HB1.out.trans (hb2.mono HB1.out.size))
  clear hb2 hy hc2 HX1 HB1
  go_wp2_with fail
  go_loopw [7] (fun vi wr => ∃ i : Nat, i ≤ X.length ∧ i ≤ Y.length ∧ vi = .int .i64 i ∧ ncmp (X.drop i) (Y.drop i) = V ∧ Below w2.heap.size w2 wr) (fun vi _ => X.length - (intOf vi).toNat)
  case atStart => exact ⟨0, by omega, by omega, rfl, HV.out, Below.refl _ _⟩
  case round =>
    rename_i wr
    obtain ⟨i, hi, hi2, rfl, hv, hb⟩ := hrel
    have HB := Lib.hid hb
    clear hb
    by_cases h1 : i < X.length
    · by_cases h2 : i < Y.length
      · obtain ⟨ax, rfl, hax, hcx2⟩ := HX2.out.get (by rw [List.length_map]; omega)
        obtain ⟨ay, rfl, hay, hcy2⟩ := HY2.out.get (by rw [List.length_map]; omega)
        obtain ⟨x, hxe⟩ : ∃ x : ByteArray, x = ⟨X[i].toArray⟩ := ⟨_, rfl⟩
        obtain ⟨y, hye⟩ : ∃ y : ByteArray, y = ⟨Y[i].toArray⟩ := ⟨_, rfl⟩
        have HCX : Hid (∀ w', Below w2.heap.size w2 w' → w'.cell? (ax.add i) = some (.string x)) := Lib.hid (fun w' hb => (hb.cell (by rw [add_block]; exact hax)).trans (hcx2 i (.string x) (by rw [List.getElem?_map, List.getElem?_eq_getElem h1, hxe]; rfl)))
        have HCY : Hid (∀ w', Below w2.heap.size w2 w' → w'.cell? (ay.add i) = some (.string y)) := Lib.hid (fun w' hb => (hb.cell (by rw [add_block]; exact hay)).trans (hcy2 i (.string y) (by rw [List.getElem?_map, List.getElem?_eq_getElem h2, hye]; rfl)))
        rw [List.drop_eq_getElem_cons h1, List.drop_eq_getElem_cons h2, ncmp] at hv
        have e1 : X[i] = x.data.toList := by rw [hxe]
        have e2 : Y[i] = y.data.toList := by rw [hye]
        rw [e1, e2] at hv
        have HVV := Lib.hid hv
        have hlx : x.toList = x.data.toList := Lib.toList_data x
        have hly : y.toList = y.data.toList := Lib.toList_data y
        have kx : (i : Int) < (X.length : Int) := by omega
        have ky : (i : Int) < (Y.length : Int) := by omega
        clear hcx2 hcy2 hax hay hxe hye e1 e2 hv
        go_wp2_with fail
        refine wp_region_org ((List.range 9).map (·, true)) (by kernel_rfl) (by kernel_rfl) (by kernel_rfl) ?_
        replace HB := Lib.hid HB.out.drew
        generalize wr.drew = wrd at *
        simp only [List.range_succ, List.range_zero, List.nil_append, List.cons_append, List.map_cons, List.map_nil, pickOrs, List.getElem?_cons_zero, List.getElem?_cons_succ]
        refine org_pure (v := ?_) (by kernel_rfl) ?_ ?_
        rotate_left
        · intro w' hv; clear hv; go_simp; try with_reducible rfl
        try simp only [Act.put, List.setIfInBounds_toArray, List.set_cons_zero, List.set_cons_succ]
        refine org_pure (v := ?_) (by kernel_rfl) ?_ ?_
        rotate_left
        · intro w' hv; clear hv; go_simp; try with_reducible rfl
        try simp only [Act.put, List.setIfInBounds_toArray, List.set_cons_zero, List.set_cons_succ]
        refine org_pure (v := ?_) (by kernel_rfl) ?_ ?_
        rotate_left
        · intro w' hv; clear hv; go_simp; try with_reducible rfl
        try simp only [Act.put, List.setIfInBounds_toArray, List.set_cons_zero, List.set_cons_succ]
        refine org_pure (v := ?_) (by kernel_rfl) ?_ ?_
        rotate_left
        · intro w' hv; have cp := HCX.out w' (HB.out.trans (Below.mono hv HB.out.size)); clear hv; go_simp; try with_reducible rfl
        try simp only [Act.put, List.setIfInBounds_toArray, List.set_cons_zero, List.set_cons_succ]
        refine org_pure (v := ?_) (by kernel_rfl) ?_ ?_
        rotate_left
        · intro w' hv; clear hv; go_simp; try with_reducible rfl
        try simp only [Act.put, List.setIfInBounds_toArray, List.set_cons_zero, List.set_cons_succ]
        refine org_pure (v := ?_) (by kernel_rfl) ?_ ?_
        rotate_left
        · intro w' hv; clear hv; go_simp; try with_reducible rfl
        try simp only [Act.put, List.setIfInBounds_toArray, List.set_cons_zero, List.set_cons_succ]
        refine org_pure (v := ?_) (by kernel_rfl) ?_ ?_
        rotate_left
        · intro w' hv; clear hv; go_simp; try with_reducible rfl
        try simp only [Act.put, List.setIfInBounds_toArray, List.set_cons_zero, List.set_cons_succ]
        refine org_pure (v := ?_) (by kernel_rfl) ?_ ?_
        rotate_left
        · intro w' hv; have cq := HCY.out w' (HB.out.trans (Below.mono hv HB.out.size)); clear hv; go_simp; try with_reducible rfl
        try simp only [Act.put, List.setIfInBounds_toArray, List.set_cons_zero, List.set_cons_succ]
        refine org_pure (v := ?_) (by kernel_rfl) ?_ ?_
        rotate_left
        · intro w' hv; clear hv; go_simp; try with_reducible rfl
        try simp only [Act.put, List.setIfInBounds_toArray, List.set_cons_zero, List.set_cons_succ]
        refine org_nil ?_
        cases hl : Op.bytesLess x.data.toList y.data.toList with
        | true =>
          have hvv := HVV.out
          rw [hl, if_pos rfl] at hvv
          subst hvv
          clear hl
          go_wp2_with fail
          go_ret
          exact ⟨rfl, HB2.out.trans (HB.out.mono HB2.out.size)⟩
        | false =>
          have hvv := HVV.out
          rw [hl, if_neg Bool.false_ne_true, Bool.false_or] at hvv
          have hgt := gtr_text 9 x y
          rw [hlx, hly, hl, Bool.false_or] at hgt
          cases he : (x.data.toList == y.data.toList) with
          | true =>
            rw [he, if_neg (by simp)] at hvv
            rw [he, Bool.not_true] at hgt
            have HV2 := Lib.hid hvv
            clear hvv
            go_wp2_with fail
            refine wp_region_org ((List.range 9).map (·, true)) (by kernel_rfl) (by kernel_rfl) (by kernel_rfl) ?_
            replace HB := Lib.hid HB.out.drew
            generalize wrd.drew = wre at *
            simp only [List.range_succ, List.range_zero, List.nil_append, List.cons_append, List.map_cons, List.map_nil, pickOrs, List.getElem?_cons_zero, List.getElem?_cons_succ]
            refine org_pure (v := ?_) (by kernel_rfl) ?_ ?_
            rotate_left
            · intro w' hv; clear hv; go_simp; try with_reducible rfl
            try simp only [Act.put, List.setIfInBounds_toArray, List.set_cons_zero, List.set_cons_succ]
            refine org_pure (v := ?_) (by kernel_rfl) ?_ ?_
            rotate_left
            · intro w' hv; clear hv; go_simp; try with_reducible rfl
            try simp only [Act.put, List.setIfInBounds_toArray, List.set_cons_zero, List.set_cons_succ]
            refine org_pure (v := ?_) (by kernel_rfl) ?_ ?_
            rotate_left
            · intro w' hv; clear hv; go_simp; try with_reducible rfl
            try simp only [Act.put, List.setIfInBounds_toArray, List.set_cons_zero, List.set_cons_succ]
            refine org_pure (v := ?_) (by kernel_rfl) ?_ ?_
            rotate_left
            · intro w' hv; have cp := HCX.out w' (HB.out.trans (Below.mono hv HB.out.size)); clear hv; go_simp; try with_reducible rfl
            try simp only [Act.put, List.setIfInBounds_toArray, List.set_cons_zero, List.set_cons_succ]
            refine org_pure (v := ?_) (by kernel_rfl) ?_ ?_
            rotate_left
            · intro w' hv; clear hv; go_simp; try with_reducible rfl
            try simp only [Act.put, List.setIfInBounds_toArray, List.set_cons_zero, List.set_cons_succ]
            refine org_pure (v := ?_) (by kernel_rfl) ?_ ?_
            rotate_left
            · intro w' hv; clear hv; go_simp; try with_reducible rfl
            try simp only [Act.put, List.setIfInBounds_toArray, List.set_cons_zero, List.set_cons_succ]
            refine org_pure (v := ?_) (by kernel_rfl) ?_ ?_
            rotate_left
            · intro w' hv; clear hv; go_simp; try with_reducible rfl
            try simp only [Act.put, List.setIfInBounds_toArray, List.set_cons_zero, List.set_cons_succ]
            refine org_pure (v := ?_) (by kernel_rfl) ?_ ?_
            rotate_left
            · intro w' hv; have cq := HCY.out w' (HB.out.trans (Below.mono hv HB.out.size)); clear hv; go_simp; try with_reducible rfl
            try simp only [Act.put, List.setIfInBounds_toArray, List.set_cons_zero, List.set_cons_succ]
            refine org_pure (v := ?_) (by kernel_rfl) ?_ ?_
            rotate_left
            · intro w' hv; clear hv; go_simp; try with_reducible rfl
            try simp only [Act.put, List.setIfInBounds_toArray, List.set_cons_zero, List.set_cons_succ]
            refine org_nil ?_
            go_wp2_with fail
            go_roundw
            case rel => exact ⟨i + 1, by omega, by omega, by go_num, HV2.out, HB.out⟩
            case measure => simp [intOf]; omega
          | false =>
            rw [he, if_pos rfl] at hvv
            rw [he, Bool.not_false] at hgt
            subst hvv
            go_wp2_with fail
            refine wp_region_org ((List.range 9).map (·, true)) (by kernel_rfl) (by kernel_rfl) (by kernel_rfl) ?_
            replace HB := Lib.hid HB.out.drew
            generalize wrd.drew = wre at *
            simp only [List.range_succ, List.range_zero, List.nil_append, List.cons_append, List.map_cons, List.map_nil, pickOrs, List.getElem?_cons_zero, List.getElem?_cons_succ]
            refine org_pure (v := ?_) (by kernel_rfl) ?_ ?_
            rotate_left
            · intro w' hv; clear hv; go_simp; try with_reducible rfl
            try simp only [Act.put, List.setIfInBounds_toArray, List.set_cons_zero, List.set_cons_succ]
            refine org_pure (v := ?_) (by kernel_rfl) ?_ ?_
            rotate_left
            · intro w' hv; clear hv; go_simp; try with_reducible rfl
            try simp only [Act.put, List.setIfInBounds_toArray, List.set_cons_zero, List.set_cons_succ]
            refine org_pure (v := ?_) (by kernel_rfl) ?_ ?_
            rotate_left
            · intro w' hv; clear hv; go_simp; try with_reducible rfl
            try simp only [Act.put, List.setIfInBounds_toArray, List.set_cons_zero, List.set_cons_succ]
            refine org_pure (v := ?_) (by kernel_rfl) ?_ ?_
            rotate_left
            · intro w' hv; have cp := HCX.out w' (HB.out.trans (Below.mono hv HB.out.size)); clear hv; go_simp; try with_reducible rfl
            try simp only [Act.put, List.setIfInBounds_toArray, List.set_cons_zero, List.set_cons_succ]
            refine org_pure (v := ?_) (by kernel_rfl) ?_ ?_
            rotate_left
            · intro w' hv; clear hv; go_simp; try with_reducible rfl
            try simp only [Act.put, List.setIfInBounds_toArray, List.set_cons_zero, List.set_cons_succ]
            refine org_pure (v := ?_) (by kernel_rfl) ?_ ?_
            rotate_left
            · intro w' hv; clear hv; go_simp; try with_reducible rfl
            try simp only [Act.put, List.setIfInBounds_toArray, List.set_cons_zero, List.set_cons_succ]
            refine org_pure (v := ?_) (by kernel_rfl) ?_ ?_
            rotate_left
            · intro w' hv; clear hv; go_simp; try with_reducible rfl
            try simp only [Act.put, List.setIfInBounds_toArray, List.set_cons_zero, List.set_cons_succ]
            refine org_pure (v := ?_) (by kernel_rfl) ?_ ?_
            rotate_left
            · intro w' hv; have cq := HCY.out w' (HB.out.trans (Below.mono hv HB.out.size)); clear hv; go_simp; try with_reducible rfl
            try simp only [Act.put, List.setIfInBounds_toArray, List.set_cons_zero, List.set_cons_succ]
            refine org_pure (v := ?_) (by kernel_rfl) ?_ ?_
            rotate_left
            · intro w' hv; clear hv; go_simp; try with_reducible rfl
            try simp only [Act.put, List.setIfInBounds_toArray, List.set_cons_zero, List.set_cons_succ]
            refine org_nil ?_
            go_wp2_with fail
            go_ret
            exact ⟨rfl, HB2.out.trans (HB.out.mono HB2.out.size)⟩
      · have hie : i = Y.length := by omega
        subst hie
        rw [ncmp_end _ _ (.inr (List.drop_of_length_le (Nat.le_refl _))), List.length_drop, List.length_drop] at hv
        have hv1 : V = 1 := by rw [← hv]; exact cmpI_gt (by omega)
        subst hv1
        have kx : (Y.length : Int) < (X.length : Int) := by omega
        have ky : ¬ (Y.length : Int) < (Y.length : Int) := by omega
        have kz : ¬ (X.length : Int) = (Y.length : Int) := by omega
        have kz2 : ((X.length : Int) != (Y.length : Int)) = true := by simp; omega
        have kt : ¬ (X.length : Int) < (Y.length : Int) := by omega
        clear hv h2
        go_wp2_with fail
        go_ret
        exact ⟨rfl, HB2.out.trans (HB.out.mono HB2.out.size)⟩
    · have hie : i = X.length := by omega
      subst hie
      rw [ncmp_end _ _ (.inl (List.drop_of_length_le (Nat.le_refl _))), List.length_drop, List.length_drop] at hv
      have kx : ¬ (X.length : Int) < (X.length : Int) := by omega
      by_cases hxy : X.length < Y.length
      · have hv1 : V = -1 := by rw [← hv]; exact cmpI_lt (by omega)
        subst hv1
        have kz2 : ((X.length : Int) != (Y.length : Int)) = true := by simp; omega
        have kz : ¬ (X.length : Int) = (Y.length : Int) := by omega
        have kt : (X.length : Int) < (Y.length : Int) := by omega
        clear hv hxy
        go_wp2_with fail
        go_ret
        exact ⟨rfl, HB2.out.trans (HB.out.mono HB2.out.size)⟩
      · have hle : X.length = Y.length := by omega
        have hv1 : V = 0 := by rw [← hv, hle]; exact cmpI_eq _
        subst hv1
        have kz2 : ((X.length : Int) != (Y.length : Int)) = false := by simp; omega
        have kz : (X.length : Int) = (Y.length : Int) := by omega
        clear hv hxy hle
        go_wp2_with fail
        go_ret
        exact ⟨rfl, HB2.out.trans (HB.out.mono HB2.out.size)⟩
end Go.Proofs.YtmjonlffhhehjaaGreatDoor
/- Entries of a tree in memory, and the document's own reckoning with them, plainly: a row of entries, three cells each. No condition. -/
namespace Go.Proofs.YtmjonlffhhehjaaGreatDoor
open Go.RowKit
/-- An entry: its path, whether it is a directory, its bytes' value, its bytes. -/
abbrev Ent := ByteArray × Bool × Value × List (BitVec 8)
def Ent.pa (e : Ent) : Tx := e.1.data.toList
def Ent.dir (e : Ent) : Bool := e.2.1
def Ent.val (e : Ent) : Value := e.2.2.1
def Ent.by (e : Ent) : List (BitVec 8) := e.2.2.2
/-- Its three cells; its value. -/
def entC (e : Ent) : List Value := [.string e.1, .bool e.2.1, e.2.2.1]
def entV (e : Ent) : Value := .agg #[.string e.1, .bool e.2.1, e.2.2.1]
def rowC (C : List Ent) : List Value := C.flatMap entC
theorem rowC_nil : rowC [] = [] := rfl
theorem rowC_cons (e : Ent) (C : List Ent) : rowC (e :: C) = entC e ++ rowC C := rfl
theorem rowC_add (C : List Ent) (e : Ent) : rowC (C ++ [e]) = rowC C ++ entC e := by
  unfold rowC
  rw [List.flatMap_append]
  simp
theorem rowC_len (C : List Ent) : (rowC C).length = 3 * C.length := by
  induction C with
  | nil => rfl
  | cons e C ih => rw [rowC_cons, List.length_append, ih, List.length_cons]; simp [entC]; omega
theorem rowC_get : ∀ (C : List Ent) (i : Nat) (h : i < C.length), (rowC C)[i * 3]? = some (.string C[i].1) ∧ (rowC C)[i * 3 + 1]? = some (.bool C[i].2.1) ∧ (rowC C)[i * 3 + 2]? = some C[i].2.2.1
  | [], i, h => absurd h (by simp)
  | e :: C, 0, _ => ⟨rfl, rfl, rfl⟩
  | e :: C, i + 1, h => by
    obtain ⟨h1, h2, h3⟩ := rowC_get C i (by simpa using h)
    rw [rowC_cons]
    have hl : (entC e).length = 3 := rfl
    refine ⟨?_, ?_, ?_⟩
    · rw [List.getElem?_append_right (by rw [hl]; omega), hl, show (i + 1) * 3 - 3 = i * 3 by omega]; simpa using h1
    · rw [List.getElem?_append_right (by rw [hl]; omega), hl, show (i + 1) * 3 + 1 - 3 = i * 3 + 1 by omega]; simpa using h2
    · rw [List.getElem?_append_right (by rw [hl]; omega), hl, show (i + 1) * 3 + 2 - 3 = i * 3 + 2 by omega]; simpa using h3
/-- The value v reads as these entries. -/
def TrV (w : World) (v : Value) (C : List Ent) : Prop := ∃ q c, v = .slice q C.length c ∧ C.length ≤ c ∧ (q = none → c = 0) ∧ Sees w w.heap.size q (rowC C)
/-- The entries' bytes are there. -/
def Ents (w : World) (C : List Ent) : Prop := ∀ e ∈ C, Bs w e.val e.by
theorem Ents.keep {w w' : World} {C : List Ent} (h : Ents w C) (hb : Below w.heap.size w w') : Ents w' C := fun e he => (h e he).keep hb
theorem TrV.keep {w w' : World} {v : Value} {C : List Ent} (h : TrV w v C) (hb : Below w.heap.size w w') : TrV w' v C := by
  obtain ⟨q, c, h1, h2, h3, h4⟩ := h
  exact ⟨q, c, h1, h2, h3, (h4.keep hb).more hb.size⟩
/-- Three cells of the one at hand. -/
theorem Sees.ent {w : World} {b : Nat} {q : Option Addr} {C : List Ent} (h : Sees w b q (rowC C)) {i : Nat} (hi : i < C.length) :
    ∃ a, q = some a ∧ a.block < b ∧ ∀ w', Below b w w' → w'.cell? (a.add (i * 3)) = some (.string C[i].1) ∧ w'.cell? ⟨(a.add (i * 3)).block, (a.add (i * 3)).off + 1, none⟩ = some (.bool C[i].2.1) ∧ w'.cell? ⟨(a.add (i * 3)).block, (a.add (i * 3)).off + 2, none⟩ = some C[i].2.2.1 := by
  obtain ⟨a, rfl, hb, hc⟩ := h.get (by rw [rowC_len]; omega)
  obtain ⟨h1, h2, h3⟩ := rowC_get C i hi
  have e1 : (⟨(a.add (i * 3)).block, (a.add (i * 3)).off + 1, none⟩ : Addr) = a.add (i * 3 + 1) := by rw [← add_add]; rfl
  have e2 : (⟨(a.add (i * 3)).block, (a.add (i * 3)).off + 2, none⟩ : Addr) = a.add (i * 3 + 2) := by rw [← add_add]; rfl
  refine ⟨a, rfl, hb, fun w' hw => ⟨(hw.cell (by rw [add_block]; exact hb)).trans (hc _ _ h1), ?_, ?_⟩⟩
  · rw [e1]; exact (hw.cell (by rw [add_block]; exact hb)).trans (hc _ _ h2)
  · rw [e2]; exact (hw.cell (by rw [add_block]; exact hb)).trans (hc _ _ h3)
/-- Its place; -1. -/
def atT : List Ent → Tx → Int
  | [], _ => -1
  | e :: C, p => if e.pa = p then 0 else if atT C p < 0 then -1 else atT C p + 1
theorem atT_ge (C : List Ent) (p : Tx) : -1 ≤ atT C p := by
  induction C with
  | nil => exact Int.le_refl _
  | cons e C ih => unfold atT; split; omega; split <;> omega
theorem atT_lt (C : List Ent) (p : Tx) : atT C p < C.length := by
  induction C with
  | nil => simp [atT]
  | cons e C ih => unfold atT; rw [List.length_cons]; split; omega; split <;> omega
theorem atT_no {C : List Ent} {p : Tx} (h : ∀ e ∈ C, e.pa ≠ p) : atT C p = -1 := by
  induction C with
  | nil => rfl
  | cons e C ih => unfold atT; rw [if_neg (h e (List.mem_cons_self ..)), ih fun x hx => h x (List.mem_cons_of_mem _ hx)]; rfl
theorem atT_at : ∀ {C : List Ent} {p : Tx} {i : Nat} (hi : i < C.length), (∀ e ∈ C.take i, e.pa ≠ p) → C[i].pa = p → atT C p = i
  | [], _, i, hi, _, _ => absurd hi (by simp)
  | e :: C, p, 0, _, _, h => by
    have h' : e.pa = p := h
    unfold atT; rw [if_pos h']; rfl
  | e :: C, p, i + 1, hi, hn, h => by
    have ih := atT_at (C := C) (p := p) (i := i) (by simpa using hi) (fun x hx => hn x (by rw [List.take_succ_cons]; exact List.mem_cons_of_mem _ hx)) (by simpa using h)
    unfold atT
    rw [if_neg (hn e (by rw [List.take_succ_cons]; exact List.mem_cons_self ..)), ih, if_neg (by omega)]
    omega
/-- All bytes together. -/
def bytesT (C : List Ent) : Nat := (C.map fun e => e.by.length).sum
theorem bytesT_add (C : List Ent) (i : Nat) (h : i < C.length) : bytesT (C.take (i + 1)) = bytesT (C.take i) + C[i].by.length := by
  unfold bytesT
  rw [List.take_add_one, List.getElem?_eq_getElem h, List.map_append, List.sum_append]
  simp
theorem bytesT_take (C : List Ent) (i : Nat) : bytesT (C.take i) ≤ bytesT C := by
  have h : bytesT C = bytesT (C.take i) + bytesT (C.drop i) := by
    unfold bytesT
    rw [← List.sum_append, ← List.map_append, List.take_append_drop]
  omega
end Go.Proofs.YtmjonlffhhehjaaGreatDoor
/- The library’s calls that package path makes, by this dump’s numbers: each is one application of the library’s own contract. Conditions: those of the library. -/
namespace Go.Proofs.YtmjonlffhhehjaaGreatDoor
open Go.Shelf Go.RowKit
def lays103_ren : Go.Shelf.Ren := ⟨fun | 103 => 138 | 210 => 161 | 206 => 162 | n => n, fun | 9 => 9 | 4 => 4 | 24 => 159 | 3 => 3 | n => n, fun | n => n⟩
theorem lays103 : Go.Proofs.Lays.n103 Tryz.prog lays103_ren := {
  mixed := by kernel_rfl
  f103 := Tryz.func138.trans (congrArg some (by kernel_rfl))
  f206 := Tryz.func162.trans (congrArg some (by kernel_rfl))
  f210 := Tryz.func161.trans (congrArg some (by kernel_rfl))
  t3 := Tryz.underlying3
  a3 := Tryz.isAgg3
  z3 := Tryz.sizeOf3
  v3 := Tryz.zeroValue3
  t4 := Tryz.underlying4
  a4 := Tryz.isAgg4
  z4 := Tryz.sizeOf4
  v4 := Tryz.zeroValue4
  t9 := Tryz.underlying9
  a9 := Tryz.isAgg9
  z9 := Tryz.sizeOf9
  v9 := Tryz.zeroValue9
  t24 := Tryz.underlying159
  a24 := Tryz.isAgg159
  z24 := Tryz.sizeOf159
  v24 := Tryz.zeroValue159 }
def lays122_ren : Go.Shelf.Ren := ⟨fun | 122 => 133 | 215 => 159 | n => n, fun | 3 => 3 | 4 => 4 | n => n, fun | n => n⟩
theorem lays122 : Go.Proofs.Lays.n122 Tryz.prog lays122_ren := {
  mixed := by kernel_rfl
  f122 := Tryz.func133.trans (congrArg some (by kernel_rfl))
  f215 := Tryz.func159.trans (congrArg some (by kernel_rfl))
  t3 := Tryz.underlying3
  a3 := Tryz.isAgg3
  z3 := Tryz.sizeOf3
  v3 := Tryz.zeroValue3
  t4 := Tryz.underlying4
  a4 := Tryz.isAgg4
  z4 := Tryz.sizeOf4
  v4 := Tryz.zeroValue4 }
def lays143_ren : Go.Shelf.Ren := ⟨fun | 143 => 173 | 219 => 179 | 217 => 180 | 225 => 181 | 224 => 182 | 267 => 183 | 266 => 184 | 314 => 185 | n => n, fun | 9 => 9 | 3 => 3 | 4 => 4 | 5 => 5 | 46 => 137 | 146 => 240 | 51 => 105 | n => n, fun | 1 => 2 | n => n⟩
theorem lays143 : Go.Proofs.Lays.n143 Tryz.prog lays143_ren := {
  mixed := by kernel_rfl
  f143 := Tryz.func173.trans (congrArg some (by kernel_rfl))
  f217 := Tryz.func180.trans (congrArg some (by kernel_rfl))
  f219 := Tryz.func179.trans (congrArg some (by kernel_rfl))
  f224 := Tryz.func182.trans (congrArg some (by kernel_rfl))
  f225 := Tryz.func181.trans (congrArg some (by kernel_rfl))
  f266 := Tryz.func184.trans (congrArg some (by kernel_rfl))
  f267 := Tryz.func183.trans (congrArg some (by kernel_rfl))
  f314 := Tryz.func185.trans (congrArg some (by kernel_rfl))
  t3 := Tryz.underlying3
  a3 := Tryz.isAgg3
  z3 := Tryz.sizeOf3
  v3 := Tryz.zeroValue3
  t4 := Tryz.underlying4
  a4 := Tryz.isAgg4
  z4 := Tryz.sizeOf4
  v4 := Tryz.zeroValue4
  t5 := Tryz.underlying5
  a5 := Tryz.isAgg5
  z5 := Tryz.sizeOf5
  v5 := Tryz.zeroValue5
  t9 := Tryz.underlying9
  a9 := Tryz.isAgg9
  z9 := Tryz.sizeOf9
  v9 := Tryz.zeroValue9
  t46 := Tryz.underlying137
  a46 := Tryz.isAgg137
  z46 := Tryz.sizeOf137
  v46 := Tryz.zeroValue137
  t51 := Tryz.underlying105
  a51 := Tryz.isAgg105
  z51 := Tryz.sizeOf105
  v51 := Tryz.zeroValue105
  t146 := Tryz.underlying240
  a146 := Tryz.isAgg240
  z146 := Tryz.sizeOf240
  v146 := Tryz.zeroValue240
  g1 := by kernel_rfl }
def lays149_ren : Go.Shelf.Ren := ⟨fun | 149 => 135 | 222 => 160 | n => n, fun | 9 => 9 | 5 => 5 | 3 => 3 | 4 => 4 | n => n, fun | n => n⟩
theorem lays149 : Go.Proofs.Lays.n149 Tryz.prog lays149_ren := {
  mixed := by kernel_rfl
  f149 := Tryz.func135.trans (congrArg some (by kernel_rfl))
  f222 := Tryz.func160.trans (congrArg some (by kernel_rfl))
  t3 := Tryz.underlying3
  a3 := Tryz.isAgg3
  z3 := Tryz.sizeOf3
  v3 := Tryz.zeroValue3
  t4 := Tryz.underlying4
  a4 := Tryz.isAgg4
  z4 := Tryz.sizeOf4
  v4 := Tryz.zeroValue4
  t5 := Tryz.underlying5
  a5 := Tryz.isAgg5
  z5 := Tryz.sizeOf5
  v5 := Tryz.zeroValue5
  t9 := Tryz.underlying9
  a9 := Tryz.isAgg9
  z9 := Tryz.sizeOf9
  v9 := Tryz.zeroValue9 }
def lays99_ren : Go.Shelf.Ren := ⟨fun | 99 => 139 | 206 => 162 | n => n, fun | 9 => 9 | 4 => 4 | 3 => 3 | n => n, fun | n => n⟩
theorem lays99 : Go.Proofs.Lays.n99 Tryz.prog lays99_ren := {
  mixed := by kernel_rfl
  f99 := Tryz.func139.trans (congrArg some (by kernel_rfl))
  f206 := Tryz.func162.trans (congrArg some (by kernel_rfl))
  t3 := Tryz.underlying3
  a3 := Tryz.isAgg3
  z3 := Tryz.sizeOf3
  v3 := Tryz.zeroValue3
  t4 := Tryz.underlying4
  a4 := Tryz.isAgg4
  z4 := Tryz.sizeOf4
  v4 := Tryz.zeroValue4
  t9 := Tryz.underlying9
  a9 := Tryz.isAgg9
  z9 := Tryz.sizeOf9
  v9 := Tryz.zeroValue9 }
theorem index_any (s : ByteArray) (w : World) : Calls Tryz.prog 173 #[.string s, .string ⟨#[47]⟩] w fun e w' => e = .returned (.int .i64 (Lib.indexByte s.data.toList 47)) ∧ w' = w := Any.strings_Index_one lays143 s 47 w
theorem lastIndex_any (s : ByteArray) (hs : s.size < 4611686018427387904) (w : World) : Calls Tryz.prog 135 #[.string s, .int .u8 47] w fun e w' => e = .returned (.int .i64 (Lib.lastIndexByte s 47)) ∧ w' = w := Any.strings_LastIndexByte lays149 s 47 hs w
theorem cutPrefix_any (s p : ByteArray) (w : World) : Calls Tryz.prog 138 #[.string s, .string p] w fun e w' => e = .returned (.tuple #[.string ⟨(Lib.trimPrefix s.data.toList p.data.toList).toArray⟩, .bool (Lib.hasPrefix s.data.toList p.data.toList)]) ∧ w' = w := Any.strings_CutPrefix lays103 s p w
theorem hasPrefix_any (s p : ByteArray) (w : World) : Calls Tryz.prog 139 #[.string s, .string p] w fun e w' => e = .returned (.bool (Lib.hasPrefix s.data.toList p.data.toList)) ∧ w' = w := Any.strings_HasPrefix lays99 s p w
theorem compare_any (x y : Int) (w : World) : Calls Tryz.prog 133 #[.int .i64 x, .int .i64 y] w fun e w' => e = .returned (.int .i64 (Lib.compareInt x y)) ∧ w' = w := Any.cmp_Compare_int lays122 x y w
end Go.Proofs.YtmjonlffhhehjaaGreatDoor
/- A range over an iterator that hands on texts and keeps its rest in a box of its own: the loop's law, and strings.SplitSeq's iterator at a slash. Conditions: what the loop's body keeps. -/
namespace Go.Proofs.YtmjonlffhhehjaaGreatDoor
open Go.RowKit Go.Shelf
/-- How a round may be left: it goes on, or it returns. -/
def postT (Kp : World → World → Prop) (I Ix : List Tx → World → Prop) (xs : List Tx) (W : World) : Exit → Act → World → Prop
  | .normal, _, W' => KeepsOthers W W' ∧ Kp W W' ∧ I xs W'
  | .ret, _, W' => KeepsOthers W W' ∧ Ix xs W'
  | _, _, _ => False
/-- What an iterator over texts gives: every round's word is handed on, its own box b aside. -/
def GivesI (P : Program) (gf : Nat) (lb : Array Value) (b : Nat) (Kp : World → World → Prop) (L : List Tx) (w : World) : Prop :=
  ∀ (l : Nat) (J Jx : List Tx → World → Prop) (W : World), Below w.heap.size w W →
    (∀ pre W1 t, J pre W1 → J pre (W1.setCell ⟨b, 0, none⟩ (.string t))) →
    (∀ pre (x : ByteArray) W1, J pre W1 → YieldAt Fence.wide 1 P l #[.string x] W1 fun e W' =>
      (e = .returned (.bool true) ∧ J (pre ++ [x.data.toList]) W' ∧ Kp W1 W') ∨ (e = .returned (.bool false) ∧ Jx (pre ++ [x.data.toList]) W')) →
    J [] W →
    CallsIn Fence.wide 2 P gf (#[.func (.yield l) #[] #[]] ++ lb) W fun e W' => (∃ v, e = .returned v) ∧ (J L W' ∨ ∃ pre, pre <+: L ∧ Jx pre W')
theorem range_law {P : Program} {g : Operand} {ps : Array Tmp} {assign body : Code} {Q : Exit → Act → World → Prop} {a : Act} {w : World}
    {gf : Nat} {lb : Array Value} (hg : a.eval g = .func (.func gf) #[] lb) (eg : ∀ args w, (callFunc gf args).run P w = .ok (.enter gf args) w)
    (b : Nat) (hbw : b < w.heap.size) (hps : ps.size = 1) (L : List Tx) {Kp : World → World → Prop}
    (hKt : ∀ {A B C : World}, Kp A B → Kp B C → Kp A C) (hKb : ∀ (W : World) (l : Nat) (o : Obj), w.heap.size ≤ l → Kp W (W.putObj l o))
    (hseq : GivesI P gf lb b Kp L w) (I Ix : List Tx → World → Prop)
    (hI : ∀ s W l o, w.heap.size ≤ l → I s W → I s (W.putObj l o)) (hIx : ∀ s W l o, w.heap.size ≤ l → Ix s W → Ix s (W.putObj l o))
    (hIa : ∀ s W o, I s W → I s (W.alloc o)) (hIs : ∀ s W t, I s W → I s (W.setCell ⟨b, 0, none⟩ (.string t)))
    (h0 : I [] w) (a₁ : ByteArray → Act)
    (hassign : ∀ (l : Nat) (x : ByteArray) (W : World) (K : Act → World → Prop), K (a₁ x) W →
      assign.wpIn (Fence.wide.inRound l) 1 P (Exit.then K (fun _ _ _ => False)) { tmps := (ps.zip #[.string x]).foldl (fun t (p, v) => t.setIfInBounds p v) a.tmps, defers := [] } W)
    (hbody : ∀ (l : Nat) (pre : List Tx) (x : ByteArray) (W : World), I pre W → body.wpIn (Fence.wide.inRound l) 1 P (postT Kp I Ix (pre ++ [x.data.toList]) W) (a₁ x) W)
    (hdone : ∀ (D : Nat) (W : World), w.heap.size ≤ D → I L W → W.heap[D]? = some (.deferred (some [])) → Q .normal { a with defers := { target := .collected D, args := #[] } :: a.defers } W)
    (hstop : ∀ (D : Nat) (pre : List Tx) (W : World), w.heap.size ≤ D → pre <+: L → Ix pre W → W.heap[D]? = some (.deferred (some [])) → Code.ret.wpIn Fence.wide 3 P Q { a with defers := { target := .collected D, args := #[] } :: a.defers } W) :
    (Code.rangeFunc g ps assign body).wpIn Fence.wide 3 P Q a w := by
  refine wpIn_rangeFunc ?_
  intro fn _
  obtain ⟨rec, hrec⟩ : ∃ rec : LoopState → Option Code → Loop, rec = fun st pe => { state := st, pending := pe, fn, tmps := a.tmps, params := ps, assign, body, defers := w.heap.size } := ⟨_, rfl⟩
  obtain ⟨W1, hW1⟩ : ∃ W1, (w.alloc (.deferred (some []))).alloc (.loop (rec .ready none)) = W1 := ⟨_, rfl⟩
  have hL1 : W1.heap[w.heap.size + 1]? = some (.loop (rec .ready none)) := by
    rw [← hW1]; have := World.alloc_heap_new (w.alloc (.deferred (some []))) (.loop (rec .ready none)); rwa [World.size_alloc] at this
  have hK1 : W1.heap[w.heap.size]? = some (.deferred (some [])) := by
    rw [← hW1]; exact (Below.heap_alloc _ _ _ (by simp)).trans (World.alloc_heap_new w _)
  have hI1 : I [] W1 := by rw [← hW1]; exact hIa _ _ _ (hIa _ _ _ h0)
  have hb1 : Below w.heap.size w W1 := by rw [← hW1]; exact ((Below.refl _ w).alloc (Nat.le_refl _) _).alloc (by simp) _
  refine ⟨w.heap.size + 1, [{ target := .collected w.heap.size, args := #[] }], W1, { target := .fn (.func gf) lb, args := #[.func (.yield (w.heap.size + 1)) #[] #[]] }, W1, gf,
    #[.func (.yield (w.heap.size + 1)) #[] #[]] ++ lb, W1, ?_, ?_, fun _ _ => trivial, ?_, (fun h => by cases h), ?_⟩
  · rw [← hW1, hrec]; exact run_enterLoop_outer _ _ _ _ _
  · simp only [resolve, hg]
    simp [go_sem]
  · simp [invoke, go_sem, eg]
  · refine (hseq (w.heap.size + 1)
      (fun pre W => I pre W ∧ W.heap[w.heap.size + 1]? = some (.loop (rec .ready none)) ∧ W.heap[w.heap.size]? = some (.deferred (some [])))
      (fun pre W => Ix pre W ∧ W.heap[w.heap.size + 1]? = some (.loop (rec .done (some .ret))) ∧ W.heap[w.heap.size]? = some (.deferred (some [])))
      W1 hb1 (fun pre W t h => ⟨hIs _ _ _ h.1, (Below.heap_setCell W ⟨b, 0, none⟩ _ _ (by show w.heap.size + 1 ≠ b; omega)).trans h.2.1, (Below.heap_setCell W ⟨b, 0, none⟩ _ _ (by show w.heap.size ≠ b; omega)).trans h.2.2⟩)
      ?_ ⟨hI1, hL1, hK1⟩).mono ?_
    · rintro pre x W ⟨hi, hl, hk⟩
      have hlt : w.heap.size + 1 < W.heap.size := (Array.getElem?_eq_some_iff.1 hl).1
      have hy := run_yield (P := P) (args := #[.string x]) hl (by rw [hrec]; exact hps.symm)
      rw [hrec] at hy
      refine ⟨fn, _, assign, body, hy, roundIn_of_wpIn trivial (hassign _ x W _ ⟨_, run_beginRound hl (by rw [hrec]), ?_⟩)⟩
      have hl2 : (W.putObj (w.heap.size + 1) (.loop { rec .ready none with state := .busy })).heap[w.heap.size + 1]? = some (.loop { rec .ready none with state := .busy }) := World.putObj_heap_same hlt
      have hk2 : (W.putObj (w.heap.size + 1) (.loop { rec .ready none with state := .busy })).heap[w.heap.size]? = some (.deferred (some [])) := (World.putObj_heap_other (by omega)).trans hk
      have hw2 : Kp W (W.putObj (w.heap.size + 1) (.loop { rec .ready none with state := .busy })) := hKb _ _ _ (by omega)
      refine wpIn_mono (hbody _ pre x _ (hI _ _ _ _ (by omega) hi)) ?_
      have fin : ∀ (jump : Option Code) (W3 : World), KeepsOthers (W.putObj (w.heap.size + 1) (.loop { rec .ready none with state := .busy })) W3 →
          (Instr.endRound (w.heap.size + 1) jump).run P W3 = .ok (.bool jump.isNone) (W3.putObj (w.heap.size + 1) (.loop (rec (if jump.isNone then .ready else .done) jump))) ∧
          (W3.putObj (w.heap.size + 1) (.loop (rec (if jump.isNone then .ready else .done) jump))).heap[w.heap.size + 1]? = some (.loop (rec (if jump.isNone then .ready else .done) jump)) ∧
          (W3.putObj (w.heap.size + 1) (.loop (rec (if jump.isNone then .ready else .done) jump))).heap[w.heap.size]? = some (.deferred (some [])) := fun jump W3 hk3 => by
        have hl3 := hk3.same _ _ hl2 rfl
        have := run_endRound (P := P) jump hl3
        rw [hrec] at this ⊢
        exact ⟨this, World.putObj_heap_same (Array.getElem?_eq_some_iff.1 hl3).1, (World.putObj_heap_other (by omega)).trans (hk3.same _ _ hk2 rfl)⟩
      rintro e a3 W3 hp
      cases e with
      | normal =>
        obtain ⟨hk3, hkp3, hi3⟩ := hp
        obtain ⟨hr, hl4, hk4⟩ := fin none W3 hk3
        exact ⟨_, _, hr, .inl ⟨rfl, ⟨hI _ _ _ _ (by omega) hi3, hl4, hk4⟩, hKt (hKt hw2 hkp3) (hKb _ _ _ (by omega))⟩⟩
      | ret =>
        obtain ⟨hk3, hi3⟩ := hp
        obtain ⟨hr, hl4, hk4⟩ := fin (some .ret) W3 hk3
        exact ⟨_, _, hr, .inr ⟨rfl, hIx _ _ _ _ (by omega) hi3, hl4, hk4⟩⟩
      | exit id => exact hp.elim
      | goto t => exact hp.elim
      | panic ch => exact hp.elim
      | outgrown => exact hp.elim
    · rintro e W2 ⟨⟨v, rfl⟩, (⟨hi, hl, hk⟩ | ⟨pre, hpre, hi, hl, hk⟩)⟩
      · exact ⟨none, _, by have := run_endLoop (P := P) hl (by rw [hrec]; simp); rw [hrec] at this; exact this, hdone _ _ (Nat.le_refl _) (hI _ _ _ _ (by omega) hi) ((World.putObj_heap_other (by omega)).trans hk)⟩
      · exact ⟨some .ret, _, by have := run_endLoop (P := P) hl (by rw [hrec]; simp); rw [hrec] at this; exact this, hstop _ _ _ (Nat.le_refl _) hpre (hIx _ _ _ _ (by omega) hi) ((World.putObj_heap_other (by omega)).trans hk)⟩
end Go.Proofs.YtmjonlffhhehjaaGreatDoor
/- Contract: strings.SplitSeq at a slash: its iterator gives a text's names, one by one. Condition: the text is shorter than 2^62 bytes. -/
namespace Go.Proofs.YtmjonlffhhehjaaGreatDoor
open Go.RowKit Go.Shelf
attribute [local go_sem] Oper.semAt_some
/-- What the iterator keeps in its three boxes. -/
def Boxes (b : Nat) (W : World) (s : ByteArray) : Prop :=
  W.cell? ⟨b, 0, none⟩ = some (.string s) ∧ W.frozen? ⟨b, 0, none⟩ = false ∧ W.cell? ⟨b + 1, 0, none⟩ = some (.string ⟨#[47]⟩) ∧ W.cell? ⟨b + 2, 0, none⟩ = some (.int .i64 0)
/-- What a round keeps: the three boxes. -/
def KpB (b : Nat) (W W' : World) : Prop := ∀ s, Boxes b W s → Boxes b W' s
def leftB (b : Nat) (W : World) : Nat := match W.cell? ⟨b, 0, none⟩ with | some (.string t) => t.size | _ => 0
theorem Boxes.left {b : Nat} {W : World} {s : ByteArray} (h : Boxes b W s) : leftB b W = s.size := by unfold leftB; rw [h.1]
theorem Boxes.set {b : Nat} {W : World} {s : ByteArray} (h : Boxes b W s) (t : ByteArray) : Boxes b (W.setCell ⟨b, 0, none⟩ (.string t)) t := by
  obtain ⟨h1, h2, h3, h4⟩ := h
  refine ⟨World.cell?_setCell_same' _ _ _ (by rw [h1]; rfl), by rw [World.frozen?_setCell]; exact h2, ?_, ?_⟩
  · rw [World.cell?_of_block (Below.heap_setCell W ⟨b, 0, none⟩ _ (b + 1) (by show b + 1 ≠ b; omega))]; exact h3
  · rw [World.cell?_of_block (Below.heap_setCell W ⟨b, 0, none⟩ _ (b + 2) (by show b + 2 ≠ b; omega))]; exact h4
set_option maxRecDepth 100000 in
set_option maxHeartbeats 2000000 in
theorem split_in (l b : Nat) (J Jx : List Tx → World → Prop) (L : List Tx)
    (hJ : ∀ pre W1 t, J pre W1 → J pre (W1.setCell ⟨b, 0, none⟩ (.string t)))
    (hY : ∀ pre (x : ByteArray) W1, J pre W1 → YieldAt Fence.wide 1 Tryz.prog l #[.string x] W1 fun e W' =>
      (e = .returned (.bool true) ∧ J (pre ++ [x.data.toList]) W' ∧ KpB b W1 W') ∨ (e = .returned (.bool false) ∧ Jx (pre ++ [x.data.toList]) W'))
    (s : ByteArray) (hs : s.size < 9223372036854775808) (hL : L = nms s.data.toList) (W : World) (hB : Boxes b W s) (h0 : J [] W) :
    CallsIn Fence.wide 2 Tryz.prog 171 #[.func (.yield l) #[] #[], .pointer (some ⟨b + 1, 0, none⟩), .pointer (some ⟨b, 0, none⟩), .pointer (some ⟨b + 2, 0, none⟩)] W
      fun e W' => (∃ v, e = .returned v) ∧ (J L W' ∨ ∃ pre, pre <+: L ∧ Jx pre W') := by
  have HB := Lib.hid hB
  obtain ⟨c1, c2, c3, c4⟩ := hB
  refine callsIn_of_wp Tryz.func171 rfl trivial ?_ rfl
  simp only [Tryz.ntmps171, List.size_toArray, List.length_cons, List.length_nil, Nat.reduceAdd, Nat.reduceSub, Array.replicate_succ, Array.replicate_zero, List.push_toArray, List.append_toArray, List.nil_append, List.cons_append]
  gi_wp2
  gi_loopw [7, 8] (fun _ _ wr => ∃ (pre : List Tx) (t : ByteArray), L = pre ++ nms t.data.toList ∧ t.size < 9223372036854775808 ∧ Boxes b wr t ∧ J pre wr) (fun _ _ wr => leftB b wr)
  case atStart => exact ⟨[], s, by rw [hL]; rfl, hs, HB.out, h0⟩
  case round =>
    obtain ⟨pre, t, hx, ht, hB, hJs⟩ := hrel
    have HB := Lib.hid hB
    have HX := Lib.hid hx
    obtain ⟨c1, c2, c3, c4⟩ := hB
    rcases idx_cases t.data.toList with ⟨hi, hno⟩ | ⟨i, hil, hi, hcut, hno⟩
    · have H1 : ∀ w1, Calls Tryz.prog 173 #[.string t, .string ⟨#[47]⟩] w1 fun e w' => e = .returned (.int .i64 (-1)) ∧ w' = w1 := fun w1 => by rw [← hi]; exact index_any t w1
      have HN : L = pre ++ [t.data.toList] := by rw [hx, nms_plain hno]
      obtain ⟨fn, tmps, assign, body, hy, hR⟩ := hY pre t wr hJs
      clear hx hi hno
      gi_wp2_with (first | (refine ⟨trivial, ?_⟩; gi_at_call 173; refine (callsIn_wide.2 (H1 _)).mono ?_; rintro e w' ⟨rfl, rfl⟩))
      refine hR.mono ?_
      rintro e W3 (⟨rfl, hJ3, hk3⟩ | ⟨rfl, hJx3⟩)
      · gi_wp2
        go_end0
        exact ⟨⟨_, rfl⟩, .inl (by rw [HN]; exact hJ3)⟩
      · gi_wp2
        go_end0
        exact ⟨⟨_, rfl⟩, .inr ⟨_, by rw [HN]; exact List.prefix_refl _, hJx3⟩⟩
    · have H1 : ∀ w1, Calls Tryz.prog 173 #[.string t, .string ⟨#[47]⟩] w1 fun e w' => e = .returned (.int .i64 (i : Int)) ∧ w' = w1 := fun w1 => by rw [← hi]; exact index_any t w1
      have hts : t.data.toList.length = t.size := rfl
      have hn := nms_hit hcut hno
      obtain ⟨fn, tmps, assign, body, hy, hR⟩ := hY pre (t.extract 0 i) wr hJs
      have e1 : (t.extract 0 i).data.toList = t.data.toList.take i := by rw [Lib.extract_data]; simp
      have e2 : (t.extract (i + 1) t.size).data.toList = t.data.toList.drop (i + 1) := by rw [Lib.extract_data, List.take_of_length_le]; rw [List.length_drop, hts]; exact Nat.le_refl _
      have e3 : (t.extract (i + 1) t.size).size = t.size - (i + 1) := by rw [ByteArray.size_extract]; omega
      rw [e1] at hR
      have HN : L = (pre ++ [t.data.toList.take i]) ++ nms (t.extract (i + 1) t.size).data.toList := by rw [hx, hn, e2]; simp
      have k1 : IntKind.i64.wrap (i : Int) = (i : Int) := by rw [IntWalk.i64_in _ (by omega)]
      have k2 : IntKind.i64.wrap ((i : Int) + 1) = ((i + 1 : Nat) : Int) := by rw [IntWalk.i64_in _ (by omega)]; omega
      have k3 : ¬ (i : Int) < 0 := by omega
      clear hx hi hno hn hcut
      gi_wp2_with (first | (refine ⟨trivial, ?_⟩; gi_at_call 173; refine (callsIn_wide.2 (H1 _)).mono ?_; rintro e w' ⟨rfl, rfl⟩))
      refine hR.mono ?_
      rintro e W3 (⟨rfl, hJ3, hk3⟩ | ⟨rfl, hJx3⟩)
      · have HB3 := Lib.hid (hk3 _ HB.out)
        have HK := Lib.hid (hJ _ _ (t.extract (i + 1) t.size) hJ3)
        obtain ⟨d1, d2, d3, d4⟩ := HB3.out
        clear hJ3 hJs c1 c2 c3 c4 hk3
        gi_wp2
        go_roundw
        case rel => exact ⟨_, _, HN, by rw [e3]; omega, HB3.out.set _, HK.out⟩
        case measure => rw [(HB3.out.set _).left, HB.out.left, e3]; omega
      · have HN2 := Lib.hid HN
        clear HN
        gi_wp2
        refine bodyPost_ret (results_none rfl _ _ _) rfl ?_
        exact ⟨⟨_, rfl⟩, .inr ⟨_, ⟨_, HN2.out.symm⟩, hJx3⟩⟩
end Go.Proofs.YtmjonlffhhehjaaGreatDoor
/- Contracts: package path's goodByte, goodName. No condition. -/
namespace Go.Proofs.YtmjonlffhhehjaaGreatDoor
open Go.RowKit
set_option maxHeartbeats 400000 in
theorem goodByte_any (c : UInt8) (w : World) :
    Calls Tryz.prog 158 #[.int .u8 (c.toNat : Int)] w fun e w' => e = .returned (.bool (okByte c)) ∧ w' = w := by
  obtain ⟨n, hn⟩ : ∃ n : Nat, n = c.toNat := ⟨_, rfl⟩
  have e1 : (c == 46) = decide (n = 46) := by rw [hn, Bool.eq_iff_iff]; simp [← UInt8.toNat_inj]
  have e2 : (c == 45) = decide (n = 45) := by rw [hn, Bool.eq_iff_iff]; simp [← UInt8.toNat_inj]
  have e3 : (c == 95) = decide (n = 95) := by rw [hn, Bool.eq_iff_iff]; simp [← UInt8.toNat_inj]
  unfold okByte
  rw [e1, e2, e3, ← hn]
  clear e1 e2 e3 hn
  go_enter Tryz.func158, Tryz.ntmps158
  go_wp2_with fail
  all_goals go_ret
  all_goals refine ⟨?_, rfl⟩
  all_goals refine congrArg (fun b => Ending.returned (.bool b)) ?_
  all_goals rw [Bool.eq_iff_iff]
  all_goals simp only [Bool.or_eq_true, Bool.and_eq_true, decide_eq_true_eq, beq_iff_eq, true_iff]
  all_goals omega
set_option maxHeartbeats 1000000 in
theorem goodName_any (s : ByteArray) (w : World) :
    Calls Tryz.prog 132 #[.string s] w fun e w' => e = .returned (.bool (okName s.data.toList)) ∧ w' = w := by
  have hl : s.toList = s.data.toList := Lib.toList_data s
  obtain ⟨r, hr⟩ : ∃ r, okName s.data.toList = r := ⟨_, rfl⟩
  have HR := Lib.hid hr
  rw [hr]
  clear hr
  go_enter Tryz.func132, Tryz.ntmps132
  go_wp2_with fail
  all_goals first
    | (go_ret; refine ⟨congrArg (fun b => Ending.returned (.bool b)) ?_, rfl⟩; rw [← HR.out]; symm; apply okName_bad; simp_all; done)
    | skip
  have HG := Lib.hid ((okName_good s (by assumption) (by assumption) (by assumption) (by simp_all)).symm.trans HR.out)
  rename_i f1 f2 f3 f4 _ _
  have hs : s.size < 4611686018427387904 := by omega
  clear f1 f2 f3 f4 hl HR
  go_loop [3, 21] (fun _ vi => ∃ i : Nat, i ≤ s.size ∧ vi = .int .i64 i ∧ (s.data.toList.take i).all okByte = true) (fun _ vi => s.size - (intOf vi).toNat)
  case atStart => exact ⟨0, by omega, rfl, rfl⟩
  case round =>
    obtain ⟨i, hi, rfl, hall⟩ := hrel
    by_cases hlt : i < s.size
    · have hx := all_take_succ (byte_at s i hlt)
      rw [hall, Bool.true_and] at hx
      have HX := Lib.hid hx
      have H1 := Lib.hid (fun w1 => goodByte_any (s[i]'hlt) w1)
      clear hx hall
      cases hb : okByte (s[i]'hlt) with
      | true =>
        rw [hb] at H1 HX
        clear hb
        go_wp2_with (first | ((with_reducible refine (H1.out _).mono ?_); rintro e w1 ⟨rfl, rfl⟩))
        go_round
        case rel => exact ⟨i + 1, by omega, by go_num, HX.out⟩
        case measure => simp [intOf]; omega
      | false =>
        rw [hb] at H1 HX
        clear hb
        go_wp2_with (first | ((with_reducible refine (H1.out _).mono ?_); rintro e w1 ⟨rfl, rfl⟩))
        go_ret
        refine ⟨congrArg (fun b => Ending.returned (.bool b)) ?_, rfl⟩
        rw [← HG.out]
        have h1 := HX.out
        rw [← List.take_append_drop (i + 1) s.data.toList, List.all_append, h1, Bool.false_and]
    · have hil : i = s.size := by omega
      subst hil
      have e : s.data.toList.take s.size = s.data.toList := List.take_of_length_le (Nat.le_of_eq rfl)
      rw [e] at hall
      have HA := Lib.hid hall
      have k1 : ¬ (s.size : Int) < (s.size : Int) := by omega
      clear hlt hall e
      go_wp2_with fail
      go_ret
      exact ⟨congrArg (fun b => Ending.returned (.bool b)) (HA.out.symm.trans HG.out), rfl⟩
end Go.Proofs.YtmjonlffhhehjaaGreatDoor
/- Contract: package path's Good: whether a text may be a path. Condition: the text is shorter than 2^62 bytes. -/
namespace Go.Proofs.YtmjonlffhhehjaaGreatDoor
open Go.RowKit Go.Shelf
set_option maxHeartbeats 400000 in
theorem splitSeq_any (s : ByteArray) (w : World) :
    Calls Tryz.prog 157 #[.string s, .string ⟨#[47]⟩, .int .i64 0] w fun e w' => e = .returned (.func (.func 171) #[] #[.pointer (some ⟨w.heap.size + 1, 0, none⟩), .pointer (some ⟨w.heap.size, 0, none⟩), .pointer (some ⟨w.heap.size + 2, 0, none⟩)]) ∧
      w' = ((w.alloc (.cells #[.string s] 9)).alloc (.cells #[.string ⟨#[47]⟩] 9)).alloc (.cells #[.int .i64 0] 3) := by
  go_enter Tryz.func157, Tryz.ntmps157
  go_wp2_with fail
  go_ret
  exact ⟨by simp, rfl⟩
set_option maxHeartbeats 400000 in
theorem SplitSeq_any (s : ByteArray) (w : World) :
    Calls Tryz.prog 131 #[.string s, .string ⟨#[47]⟩] w fun e w' => e = .returned (.func (.func 171) #[] #[.pointer (some ⟨w.heap.size + 1, 0, none⟩), .pointer (some ⟨w.heap.size, 0, none⟩), .pointer (some ⟨w.heap.size + 2, 0, none⟩)]) ∧
      w' = ((w.alloc (.cells #[.string s] 9)).alloc (.cells #[.string ⟨#[47]⟩] 9)).alloc (.cells #[.int .i64 0] 3) := by
  have H1 := Lib.hid (fun w1 => splitSeq_any s w1)
  go_enter Tryz.func131, Tryz.ntmps131
  go_wp2_with (first | ((with_reducible refine (H1.out _).mono ?_); rintro e w1 ⟨rfl, rfl⟩))
  go_ret
  exact ⟨rfl, rfl⟩
attribute [local go_sem] Oper.semAt_some
theorem box_cell {W : World} {k : Nat} {v : Value} {t : TypeId} (h : W.heap[k]? = some (.cells #[v] t)) : W.cell? ⟨k, 0, none⟩ = some v ∧ W.frozen? ⟨k, 0, none⟩ = false := by
  unfold World.cell? World.frozen?; simp [h]
/-- What Good's own two boxes hold between two rounds. -/
def GI (B : Nat) (w : World) (pre : List Tx) (W : World) : Prop :=
  Below B w W ∧ B + 5 ≤ W.heap.size ∧ W.cell? ⟨B, 0, none⟩ = some (.bool false) ∧ W.frozen? ⟨B, 0, none⟩ = false ∧ W.cell? ⟨B + 1, 0, none⟩ = some (.int .i64 (pre.length : Int)) ∧ W.frozen? ⟨B + 1, 0, none⟩ = false ∧ pre.all okName = true ∧ pre.length ≤ 4
def GX (B : Nat) (w : World) (pre : List Tx) (W : World) : Prop :=
  Below B w W ∧ B + 5 ≤ W.heap.size ∧ W.cell? ⟨B, 0, none⟩ = some (.bool false) ∧ (4 < pre.length ∨ pre.all okName = false)
theorem put_cell {W : World} {l k : Nat} {o : Obj} (h : k ≠ l) : (W.putObj l o).cell? ⟨k, 0, none⟩ = W.cell? ⟨k, 0, none⟩ ∧ (W.putObj l o).frozen? ⟨k, 0, none⟩ = W.frozen? ⟨k, 0, none⟩ :=
  ⟨World.cell?_of_block (World.putObj_heap_other h), World.frozen?_of_block (World.putObj_heap_other h)⟩
theorem set_cell {W : World} {l k : Nat} {v : Value} (h : k ≠ l) : (W.setCell ⟨l, 0, none⟩ v).cell? ⟨k, 0, none⟩ = W.cell? ⟨k, 0, none⟩ ∧ (W.setCell ⟨l, 0, none⟩ v).frozen? ⟨k, 0, none⟩ = W.frozen? ⟨k, 0, none⟩ :=
  ⟨World.cell?_of_block (Below.heap_setCell W ⟨l, 0, none⟩ v k h), World.frozen?_of_block (Below.heap_setCell W ⟨l, 0, none⟩ v k h)⟩
theorem new_cell {W : World} {k : Nat} {o : Obj} (h : k < W.heap.size) : (W.alloc o).cell? ⟨k, 0, none⟩ = W.cell? ⟨k, 0, none⟩ ∧ (W.alloc o).frozen? ⟨k, 0, none⟩ = W.frozen? ⟨k, 0, none⟩ :=
  ⟨World.cell?_of_block (Below.heap_alloc W o k h), World.frozen?_of_block (Below.heap_alloc W o k h)⟩
theorem size_set (W : World) (a : Addr) (v : Value) : (W.setCell a v).heap.size = W.heap.size := by
  show (W.heap.modify _ _).size = _; rw [Array.size_modify]
theorem below_put {B : Nat} {w W : World} (h : Below B w W) (hw : B ≤ W.heap.size) {l : Nat} (hl : B ≤ l) (o : Obj) : Below B w (W.putObj l o) :=
  h.grown (grownBy_putObj' W l o) hw (fun k e => by cases e; exact hl)
theorem GI.put {B : Nat} {w : World} {pre : List Tx} {W : World} (h : GI B w pre W) {l : Nat} (hl : B + 5 ≤ l) (o : Obj) : GI B w pre (W.putObj l o) := by
  obtain ⟨h1, h2, h3, h4, h5, h6, h7⟩ := h
  have p0 := put_cell (W := W) (o := o) (show B ≠ l by omega)
  have p1 := put_cell (W := W) (o := o) (show B + 1 ≠ l by omega)
  exact ⟨below_put h1 (by omega) (by omega) o, by rw [World.putObj_size]; exact h2, p0.1.trans h3, p0.2.trans h4, p1.1.trans h5, p1.2.trans h6, h7⟩
theorem GX.put {B : Nat} {w : World} {pre : List Tx} {W : World} (h : GX B w pre W) {l : Nat} (hl : B + 5 ≤ l) (o : Obj) : GX B w pre (W.putObj l o) := by
  obtain ⟨h1, h2, h3, h7⟩ := h
  have p0 := put_cell (W := W) (o := o) (show B ≠ l by omega)
  exact ⟨below_put h1 (by omega) (by omega) o, by rw [World.putObj_size]; exact h2, p0.1.trans h3, h7⟩
theorem GI.new {B : Nat} {w : World} {pre : List Tx} {W : World} (h : GI B w pre W) (o : Obj) : GI B w pre (W.alloc o) := by
  obtain ⟨h1, h2, h3, h4, h5, h6, h7⟩ := h
  have p0 := new_cell (W := W) (o := o) (show B < W.heap.size by omega)
  have p1 := new_cell (W := W) (o := o) (show B + 1 < W.heap.size by omega)
  exact ⟨h1.alloc (by omega) o, by rw [World.size_alloc]; omega, p0.1.trans h3, p0.2.trans h4, p1.1.trans h5, p1.2.trans h6, h7⟩
theorem GI.set {B : Nat} {w : World} {pre : List Tx} {W : World} (h : GI B w pre W) (t : ByteArray) : GI B w pre (W.setCell ⟨B + 2, 0, none⟩ (.string t)) := by
  obtain ⟨h1, h2, h3, h4, h5, h6, h7⟩ := h
  have p0 := set_cell (W := W) (v := .string t) (show B ≠ B + 2 by omega)
  have p1 := set_cell (W := W) (v := .string t) (show B + 1 ≠ B + 2 by omega)
  exact ⟨h1.setCell (p := ⟨B + 2, 0, none⟩) (by show B ≤ B + 2; omega) _, by rw [size_set]; exact h2, p0.1.trans h3, p0.2.trans h4, p1.1.trans h5, p1.2.trans h6, h7⟩
theorem KpB.put {B l : Nat} (W : World) (hl : B + 5 ≤ l) (o : Obj) : KpB (B + 2) W (W.putObj l o) := fun s h => by
  obtain ⟨h1, h2, h3, h4⟩ := h
  exact ⟨(put_cell (show B + 2 ≠ l by omega)).1.trans h1, (put_cell (show B + 2 ≠ l by omega)).2.trans h2, (put_cell (show B + 2 + 1 ≠ l by omega)).1.trans h3, (put_cell (show B + 2 + 2 ≠ l by omega)).1.trans h4⟩
theorem Boxes.below {b : Nat} {w W : World} {s : ByteArray} (h : Boxes b w s) (hB : Below w.heap.size w W) (hb : b + 2 < w.heap.size) : Boxes b W s := by
  obtain ⟨h1, h2, h3, h4⟩ := h
  exact ⟨(hB.cell (p := ⟨b, 0, none⟩) (by show b < _; omega)).trans h1, (hB.frozen (p := ⟨b, 0, none⟩) (by show b < _; omega)).trans h2, (hB.cell (p := ⟨b + 1, 0, none⟩) (by show b + 1 < _; omega)).trans h3, (hB.cell (p := ⟨b + 2, 0, none⟩) (by show b + 2 < _; omega)).trans h4⟩
theorem ok_of_all {s : ByteArray} (h1 : (nms s.data.toList).all okName = true) (h2 : (nms s.data.toList).length ≤ 4) : okPath s.data.toList = true := by
  unfold okPath; rw [h1, decide_eq_true h2]; rfl
theorem not_ok_of {s : ByteArray} {pre : List Tx} (hp : pre <+: nms s.data.toList) (h : 4 < pre.length ∨ pre.all okName = false) : okPath s.data.toList = false := by
  obtain ⟨t, ht⟩ := hp
  unfold okPath
  rw [← ht]
  rcases h with h | h
  · rw [decide_eq_false (by rw [List.length_append]; omega)]; rfl
  · rw [List.all_append, h]; simp
set_option maxRecDepth 100000 in
set_option maxHeartbeats 2000000 in
theorem pthgood_any (s : ByteArray) (hs : s.size < 9223372036854775808) (w : World) :
    Calls Tryz.prog 106 #[.string s] w fun e w' => e = .returned (.bool (okPath s.data.toList)) ∧ Below w.heap.size w w' := by
  obtain ⟨r, hr⟩ : ∃ r, okPath s.data.toList = r := ⟨_, rfl⟩
  have HR := Lib.hid hr
  rw [hr]
  clear hr
  refine (callsIn_wide (n := 3)).1 ?_
  refine callsIn_of_wp_marks Tryz.func106 rfl trivial ?_ rfl
  simp only [Tryz.ntmps106, List.size_toArray, List.length_cons, List.length_nil, Nat.reduceAdd, Nat.reduceSub, Array.replicate_succ, Array.replicate_zero, List.push_toArray, List.append_toArray, List.nil_append, List.cons_append]
  gi_wp2_with (first | (refine ⟨trivial, ?_⟩; gi_at_call 131; refine (callsIn_wide.2 (SplitSeq_any _ _)).mono ?_; rintro e w' ⟨rfl, rfl⟩))
  obtain ⟨B, hB⟩ : ∃ B, w.heap.size = B := ⟨_, rfl⟩
  obtain ⟨W0, hW0⟩ : ∃ W0, ((((w.alloc (.cells #[.bool false] 4)).alloc (.cells #[.int .i64 0] 3)).alloc (.cells #[.string s] 9)).alloc (.cells #[.string ⟨#[47]⟩] 9)).alloc (.cells #[.int .i64 0] 3) = W0 := ⟨_, rfl⟩
  have z0 : W0.heap.size = B + 5 := by rw [← hW0, ← hB]; simp
  have hblk : ∀ k : Nat, W0.heap[k]? = ((((((w.heap.push (.cells #[.bool false] 4)).push (.cells #[.int .i64 0] 3)).push (.cells #[.string s] 9)).push (.cells #[.string ⟨#[47]⟩] 9)).push (.cells #[.int .i64 0] 3)))[k]? := fun k => by rw [← hW0]; rfl
  have b0 : W0.heap[B]? = some (.cells #[.bool false] 4) := by rw [hblk, ← hB]; simp only [Array.getElem?_push, Array.size_push]; (repeat' split) <;> first | rfl | omega | exact absurd trivial ‹¬ True›
  have b1 : W0.heap[B + 1]? = some (.cells #[.int .i64 0] 3) := by rw [hblk, ← hB]; simp only [Array.getElem?_push, Array.size_push]; (repeat' split) <;> first | rfl | omega | exact absurd trivial ‹¬ True›
  have b2 : W0.heap[B + 2]? = some (.cells #[.string s] 9) := by rw [hblk, ← hB]; simp only [Array.getElem?_push, Array.size_push]; (repeat' split) <;> first | rfl | omega | exact absurd trivial ‹¬ True›
  have b3 : W0.heap[B + 2 + 1]? = some (.cells #[.string ⟨#[47]⟩] 9) := by rw [hblk, ← hB]; simp only [Array.getElem?_push, Array.size_push]; (repeat' split) <;> first | rfl | omega | exact absurd trivial ‹¬ True›
  have b4 : W0.heap[B + 2 + 2]? = some (.cells #[.int .i64 0] 3) := by rw [hblk, ← hB]; simp only [Array.getElem?_push, Array.size_push]; (repeat' split) <;> first | rfl | omega | exact absurd trivial ‹¬ True›
  have hX : Boxes (B + 2) W0 s := ⟨(box_cell b2).1, (box_cell b2).2, (box_cell b3).1, (box_cell b4).1⟩
  have hbl : Below B w W0 := by
    rw [← hW0, ← hB]
    exact ((((((Below.refl _ w).alloc (Nat.le_refl _) _).alloc (by simp) _).alloc (by simp; omega) _).alloc (by simp; omega) _).alloc (by simp; omega) _)
  rw [hW0, hB]
  have HW := Lib.hid hW0
  have HB := Lib.hid hB
  clear hblk hW0 hB
  have e3 : B + 1 + 1 = B + 2 := rfl
  have e4 : B + 2 + 1 = B + 2 + 1 := rfl
  refine range_law (gf := 171) (lb := #[.pointer (some ⟨B + 2 + 1, 0, none⟩), .pointer (some ⟨B + 2, 0, none⟩), .pointer (some ⟨B + 2 + 2, 0, none⟩)]) rfl (enters_of Tryz.func171 (by kernel_rfl) rfl)
    (B + 2) (by omega) rfl (nms s.data.toList) (Kp := KpB (B + 2)) (fun h k t ht => k t (h t ht)) (fun W l o hl => KpB.put W (by omega) o)
    (fun l J Jx W hW hJ hY h0 => split_in l (B + 2) J Jx _ hJ hY s hs rfl W (hX.below hW (by omega)) h0)
    (GI B w) (GX B w) (fun _ _ _ o hl h => h.put (by omega) o) (fun _ _ _ o hl h => h.put (by omega) o) (fun _ _ o h => h.new o) (fun _ _ t h => h.set t)
    ⟨hbl, by omega, (box_cell b0).1, (box_cell b0).2, (box_cell b1).1, (box_cell b1).2, rfl, by decide⟩
    (fun x => { tmps := #[.string s, undef, .pointer (some ⟨B, 0, none⟩), .pointer (some ⟨B + 1, 0, none⟩), .string x, .string s, .func (.func 171) #[] #[.pointer (some ⟨B + 2 + 1, 0, none⟩), .pointer (some ⟨B + 2, 0, none⟩), .pointer (some ⟨B + 2 + 2, 0, none⟩)], .string x, undef, undef, undef, undef, undef, undef, undef, undef, undef], defers := [] }) ?assign ?body ?done ?stop
  case assign =>
    intro l x W K hK
    gi_wp2
    exact hK
  case body =>
    rintro l pre x W hGI
    have HGI := Lib.hid hGI
    obtain ⟨q1, q2, q3, q4, q5, q6, q7, q8⟩ := hGI
    have p0 : ∀ v : Value, ((W.setCell ⟨B + 1, 0, none⟩ v).cell? ⟨B, 0, none⟩ = some (.bool false)) ∧ (W.setCell ⟨B + 1, 0, none⟩ v).frozen? ⟨B, 0, none⟩ = false := fun v => by
      obtain ⟨a, b⟩ := set_cell (W := W) (v := v) (show B ≠ B + 1 by omega)
      exact ⟨a.trans q3, b.trans q4⟩
    have p1 : ∀ v : Value, ((W.setCell ⟨B + 1, 0, none⟩ v).cell? ⟨B + 1, 0, none⟩ = some v) ∧ (W.setCell ⟨B + 1, 0, none⟩ v).frozen? ⟨B + 1, 0, none⟩ = false := fun v =>
      ⟨World.cell?_setCell_same' _ _ _ (by rw [q5]; rfl), by rw [World.frozen?_setCell]; exact q6⟩
    have pB : ∀ v : Value, Below B w (W.setCell ⟨B + 1, 0, none⟩ v) := fun v => q1.setCell (p := ⟨B + 1, 0, none⟩) (by show B ≤ B + 1; omega) _
    have pS : ∀ v : Value, B + 5 ≤ (W.setCell ⟨B + 1, 0, none⟩ v).heap.size := fun v => by rw [size_set]; exact q2
    have PS := Lib.hid pS
    have PB := Lib.hid pB
    have P0 := Lib.hid p0
    have P1 := Lib.hid p1
    have kw : IntKind.i64.wrap ((pre.length : Int) + 1) = (pre.length : Int) + 1 := by rw [IntWalk.i64_in _ (by omega)]
    obtain ⟨pa, pb⟩ := p0 (.int .i64 ((pre.length : Int) + 1))
    obtain ⟨pc, pd⟩ := p1 (.int .i64 ((pre.length : Int) + 1))
    have hkp : ∀ v : Value, KpB (B + 2) W (W.setCell ⟨B + 1, 0, none⟩ v) := fun v k hk => by
      obtain ⟨h1, h2, h3, h4⟩ := hk
      exact ⟨(set_cell (show B + 2 ≠ B + 1 by omega)).1.trans h1, (set_cell (show B + 2 ≠ B + 1 by omega)).2.trans h2, (set_cell (show B + 2 + 1 ≠ B + 1 by omega)).1.trans h3, (set_cell (show B + 2 + 2 ≠ B + 1 by omega)).1.trans h4⟩
    have HK := Lib.hid hkp
    clear hkp
    have H1 := Lib.hid (fun w1 => goodName_any x w1)
    have HA := Lib.hid q7
    clear p0 p1 pB pS q7
    have hl1 : ∀ y : Tx, (pre ++ [y]).length = pre.length + 1 := fun y => by simp
    have HL := Lib.hid hl1
    clear hl1
    by_cases h4 : 4 < pre.length + 1
    · have k4 : (4 : Int) < (pre.length : Int) + 1 := by omega
      gi_wp2_with (refine ⟨trivial, ?_⟩)
      refine ⟨(KeepsOthers.setCell _ _ _).trans (KeepsOthers.setCell _ _ _), ?_⟩
      exact ⟨(PB.out _).setCell (p := ⟨B, 0, none⟩) (Nat.le_refl _) _, by rw [size_set]; exact PS.out _, World.cell?_setCell_same' _ _ _ (by rw [pa]; rfl), .inl (by rw [HL.out]; exact h4)⟩
    · have k4 : ¬ (4 : Int) < (pre.length : Int) + 1 := by omega
      cases hb : okName x.data.toList with
      | true =>
        rw [hb] at H1
        have HB := Lib.hid hb
        clear hb
        gi_wp2_with (first | (refine ⟨trivial, ?_⟩; gi_at_call 132; refine (CallsIn.inRound l (callsIn_wide.2 (H1.out _))).mono ?_; rintro e w' ⟨rfl, rfl⟩))
        exact ⟨KeepsOthers.setCell _ _ _, HK.out _, PB.out _, PS.out _, pa, pb, by rw [HL.out]; simpa using pc, pd, by rw [List.all_append, HA.out]; simp [HB.out], by rw [HL.out]; omega⟩
      | false =>
        rw [hb] at H1
        have HB := Lib.hid hb
        clear hb
        gi_wp2_with (first | (refine ⟨trivial, ?_⟩; gi_at_call 132; refine (CallsIn.inRound l (callsIn_wide.2 (H1.out _))).mono ?_; rintro e w' ⟨rfl, rfl⟩))
        refine ⟨(KeepsOthers.setCell _ _ _).trans (KeepsOthers.setCell _ _ _), ?_⟩
        exact ⟨(PB.out _).setCell (p := ⟨B, 0, none⟩) (Nat.le_refl _) _, by rw [size_set]; exact PS.out _, World.cell?_setCell_same' _ _ _ (by rw [pa]; rfl), .inr (by rw [List.all_append]; simp [HB.out])⟩
  case done =>
    rintro D W hD ⟨q1, q2, q3, q4, q5, q6, q7, q8⟩ hK
    have hr : r = true := HR.out.symm.trans (ok_of_all q7 q8)
    subst hr
    have HQ := Lib.hid q1
    have HK := Lib.hid hK
    clear q1 q5 q6 q7 q8
    gi_wp2
    have hK' := (KeepsOthers.setCell W ⟨B, 0, none⟩ (.bool true)).same D _ HK.out rfl
    have c5 := (put_cell (W := W.setCell ⟨B, 0, none⟩ (.bool true)) (o := .deferred none) (show B ≠ D by omega)).1.trans (World.cell?_setCell_same' W ⟨B, 0, none⟩ (.bool true) (by rw [q3]; rfl))
    refine ⟨by simp, .inl ⟨_, _, rfl, run_takeDeferred hK', ?_⟩⟩
    refine ⟨.bool true, ?_, rfl, ?_⟩
    · simp [results, Tryz.f106, go_sem, c5]
    · rw [HB.out]
      exact below_put (HQ.out.setCell (p := ⟨B, 0, none⟩) (Nat.le_refl _) _) (by rw [size_set]; omega) (by omega) _
  case stop =>
    rintro D pre W hD hp ⟨q1, q2, q3, q4⟩ hK
    have hr : r = false := HR.out.symm.trans (not_ok_of hp q4)
    subst hr
    have HQ := Lib.hid q1
    clear q1 q4
    gi_wp2
    have c5 := (put_cell (W := W) (o := .deferred none) (show B ≠ D by omega)).1.trans q3
    refine ⟨by simp, .inl ⟨_, _, rfl, run_takeDeferred hK, ?_⟩⟩
    refine ⟨.bool false, ?_, rfl, ?_⟩
    · simp [results, Tryz.f106, go_sem, c5]
    · rw [HB.out]
      exact below_put HQ.out (by omega) (by omega) _
end Go.Proofs.YtmjonlffhhehjaaGreatDoor
/- Contracts: package tree's size, fits, goodEntry. Condition: all bytes together at most 2^62. -/
namespace Go.Proofs.YtmjonlffhhehjaaGreatDoor
open Go.RowKit
set_option maxHeartbeats 4000000 in
set_option maxRecDepth 100000 in
theorem tsize_any (C : List Ent) (q : Option Addr) (c : Nat) (hm : C.length ≤ 100000) (hb : bytesT C ≤ 4611686018427387904) (w : World) (hs : Sees w w.heap.size q (rowC C)) (hE : Ents w C) :
    Calls Tryz.prog 71 #[.slice q C.length c] w fun e w' => e = .returned (.int .i64 (bytesT C : Int)) ∧ Below w.heap.size w w' := by
  have HS := Lib.hid hs
  have HE := Lib.hid hE
  clear hs hE
  go_enter Tryz.func71, Tryz.ntmps71
  go_wp2_with fail
  go_loopw [3, 5, 8] (fun vn _ vi wr => ∃ i : Nat, i ≤ C.length ∧ vi = .int .i64 i ∧ vn = .int .i64 (bytesT (C.take i) : Int) ∧ Below w.heap.size w wr) (fun _ _ vi _ => C.length - (intOf vi).toNat)
  case atStart => exact ⟨0, by omega, rfl, rfl, Below.refl _ _⟩
  case round =>
    rename_i wr
    obtain ⟨i, hi, rfl, rfl, hB⟩ := hrel
    have HB := Lib.hid hB
    clear hB
    by_cases hlt : i < C.length
    · obtain ⟨a, rfl, ha, hc⟩ := HS.out.ent hlt
      obtain ⟨c1, c2, c3⟩ := hc wr HB.out
      obtain ⟨qb, cb, hv, _, _, _⟩ := HE.out C[i] (List.getElem_mem hlt)
      have kk : (i : Int) < (C.length : Int) := by omega
      have hadd := bytesT_add C i hlt
      have htot := bytesT_take C (i + 1)
      obtain ⟨e, he⟩ : ∃ e, C[i] = e := ⟨_, rfl⟩
      rw [he] at c1 c2 c3 hv hadd
      obtain ⟨x, d, bv, bb⟩ := e
      have hv' : bv = .slice qb (List.length bb) cb := hv
      subst hv'
      simp only [] at c1 c2 c3
      have hbb : Ent.by (x, d, Value.slice qb (List.length bb) cb, bb) = bb := rfl
      rw [hbb] at hadd
      clear hc ha he hv hbb
      obtain ⟨s0, hs0⟩ : ∃ s0, bytesT (C.take i) = s0 := ⟨_, rfl⟩
      obtain ⟨s1, hs1⟩ : ∃ s1, bytesT (C.take (i + 1)) = s1 := ⟨_, rfl⟩
      rw [hs0] at hadd ⊢
      rw [hs1] at hadd htot
      have kw : IntKind.i64.wrap ((s0 : Int) + (bb.length : Int)) = (s1 : Int) := by rw [IntWalk.i64_in _ (by omega)]; omega
      have HS1 := Lib.hid hs1
      clear hs0 hs1 hadd htot
      go_wp2_with fail
      go_roundw
      case rel => exact ⟨i + 1, by omega, by go_num, by rw [HS1.out], HB.out.alloc HB.out.size _⟩
      case measure => simp [intOf]; omega
    · have hil : i = C.length := by omega
      subst hil
      have k0 : ¬ (C.length : Int) < (C.length : Int) := by omega
      rw [List.take_length]
      clear hlt
      go_wp2_with fail
      go_ret
      exact ⟨rfl, HB.out⟩
def fitsT (C : List Ent) : Bool := decide (C.length ≤ 40) && decide (bytesT C ≤ 16384)
set_option maxHeartbeats 4000000 in
theorem tfits_any (C : List Ent) (q : Option Addr) (c : Nat) (hm : C.length ≤ 100000) (hb : bytesT C ≤ 4611686018427387904) (w : World) (hs : Sees w w.heap.size q (rowC C)) (hE : Ents w C) :
    Calls Tryz.prog 67 #[.slice q C.length c] w fun e w' => e = .returned (.bool (fitsT C)) ∧ Below w.heap.size w w' := by
  have HSZ := Lib.hid (fun w1 h1 h2 => tsize_any C q c hm hb w1 h1 h2)
  have HS := Lib.hid hs
  have HE := Lib.hid hE
  clear hs hE
  unfold fitsT
  by_cases h1 : C.length ≤ 40
  · have k1 : (C.length : Int) ≤ 40 := by omega
    rw [decide_eq_true h1, Bool.true_and]
    by_cases h2 : bytesT C ≤ 16384
    · have k2 : (bytesT C : Int) ≤ 16384 := by omega
      rw [decide_eq_true h2]
      go_enter Tryz.func67, Tryz.ntmps67
      go_wp2_with (first | ((with_reducible refine (HSZ.out _ HS.out HE.out).mono ?_); rintro e w1 ⟨rfl, hb1⟩; have HB := Lib.hid hb1; clear hb1))
      go_ret
      exact ⟨rfl, HB.out⟩
    · have k2 : ((bytesT C : Int) ≤ 16384) = False := eq_false (by omega)
      rw [decide_eq_false h2]
      go_enter Tryz.func67, Tryz.ntmps67
      go_wp2_with (first | ((with_reducible refine (HSZ.out _ HS.out HE.out).mono ?_); rintro e w1 ⟨rfl, hb1⟩; have HB := Lib.hid hb1; clear hb1))
      go_ret
      exact ⟨rfl, HB.out⟩
  · have k1 : ¬ (C.length : Int) ≤ 40 := by omega
    rw [decide_eq_false h1, Bool.false_and]
    go_enter Tryz.func67, Tryz.ntmps67
    go_wp2_with fail
    go_ret
    exact ⟨rfl, Below.refl _ _⟩
/-- A block that was made stands behind what the calls since have laid. -/
theorem boxed {w w1 : World} {t : TypeId} {cs : Array Value} (hb : Below (w.alloc (.cells cs t)).heap.size (w.alloc (.cells cs t)) w1) : Has w1 w.heap.size t cs.toList :=
  (Has.made w t cs).keep hb (by simp)
/-- Whether an entry may be, wherever it is. -/
def okEnt (e : Ent) : Bool := !(e.dir && decide (0 < e.by.length)) && (okPath e.pa && decide (e.by.length ≤ 2048))
set_option maxHeartbeats 4000000 in
theorem tgoodEntry_any (x : ByteArray) (d : Bool) (qb : Option Addr) (cb : Nat) (bb : List (BitVec 8)) (hx : x.size < 9223372036854775808) (w : World) :
    Calls Tryz.prog 68 #[.agg #[.string x, .bool d, .slice qb bb.length cb]] w fun e w' => e = .returned (.bool (okEnt (x, d, .slice qb bb.length cb, bb))) ∧ Below w.heap.size w w' := by
  have HG := Lib.hid (fun w1 => pthgood_any x hx w1)
  have hpa : okEnt (x, d, .slice qb bb.length cb, bb) = (!(d && decide (0 < bb.length)) && (okPath x.data.toList && decide (bb.length ≤ 2048))) := rfl
  rw [hpa]
  clear hpa
  generalize okPath x.data.toList = G at *
  by_cases h0 : d = true ∧ 0 < bb.length
  · obtain ⟨rfl, h0⟩ := h0
    have k0 : (0 : Int) < (bb.length : Int) := by omega
    rw [decide_eq_true h0]
    go_enter Tryz.func68, Tryz.ntmps68
    go_wp2_with fail
    go_ret
    exact ⟨rfl, (Below.refl _ _).alloc (Nat.le_refl _) _⟩
  · have hd : (d && decide (0 < bb.length)) = false := by
      cases d with
      | false => rfl
      | true => rw [decide_eq_false (fun h => h0 ⟨rfl, h⟩)]; rfl
    rw [hd]
    by_cases h2 : bb.length ≤ 2048
    · have k2 : (bb.length : Int) ≤ 2048 := by omega
      rw [decide_eq_true h2]
      cases d with
      | false =>
        cases G <;>
        · go_enter Tryz.func68, Tryz.ntmps68
          go_wp2_with (first | ((with_reducible refine (HG.out _).mono ?_); rintro e w1 ⟨rfl, hb1⟩; have q2 := (boxed hb1).cellv (i := 2) (v := .slice qb bb.length cb) rfl; have HB := Lib.hid (((Below.refl _ w).alloc (Nat.le_refl _) _).trans (hb1.mono (by simp))); clear hb1))
          go_ret
          exact ⟨rfl, HB.out⟩
      | true =>
        have k3 : ¬ (0 : Int) < (bb.length : Int) := fun h => h0 ⟨rfl, by omega⟩
        cases G <;>
        · go_enter Tryz.func68, Tryz.ntmps68
          go_wp2_with (first | ((with_reducible refine (HG.out _).mono ?_); rintro e w1 ⟨rfl, hb1⟩; have q2 := (boxed hb1).cellv (i := 2) (v := .slice qb bb.length cb) rfl; have HB := Lib.hid (((Below.refl _ w).alloc (Nat.le_refl _) _).trans (hb1.mono (by simp))); clear hb1))
          go_ret
          exact ⟨rfl, HB.out⟩
    · have k2 : ((bb.length : Int) ≤ 2048) = False := eq_false (by omega)
      rw [decide_eq_false h2]
      cases d with
      | false =>
        cases G <;>
        · go_enter Tryz.func68, Tryz.ntmps68
          go_wp2_with (first | ((with_reducible refine (HG.out _).mono ?_); rintro e w1 ⟨rfl, hb1⟩; have q2 := (boxed hb1).cellv (i := 2) (v := .slice qb bb.length cb) rfl; have HB := Lib.hid (((Below.refl _ w).alloc (Nat.le_refl _) _).trans (hb1.mono (by simp))); clear hb1))
          go_ret
          exact ⟨rfl, HB.out⟩
      | true => exact absurd ⟨rfl, by omega⟩ h0
end Go.Proofs.YtmjonlffhhehjaaGreatDoor
/- Contract: package path's Cmp. Condition: texts shorter than 2^63 bytes. -/
namespace Go.Proofs.YtmjonlffhhehjaaGreatDoor
open Go.RowKit Go.Shelf
set_option maxHeartbeats 400000 in
theorem rank_any (c : UInt8) (w : World) :
    Calls Tryz.prog 134 #[.int .u8 (c.toNat : Int)] w fun e w' => e = .returned (.int .i64 (rankB c)) ∧ w' = w := by
  have hl : c.toNat < 256 := UInt8.toNat_lt c
  unfold rankB
  by_cases h : c = 47
  · rw [if_pos h, h]
    go_enter Tryz.func134, Tryz.ntmps134
    go_wp2_with fail
    go_ret
    exact ⟨rfl, rfl⟩
  · rw [if_neg h]
    have k1 : ¬ (c.toNat : Int) = 47 := fun e => h (UInt8.toNat_inj.1 (by show c.toNat = 47; omega))
    have kw : IntKind.i64.wrap (c.toNat : Int) = (c.toNat : Int) := by rw [IntWalk.i64_in _ (by omega)]
    generalize c.toNat = n at *
    clear h hl
    go_enter Tryz.func134, Tryz.ntmps134
    go_wp2_with fail
    go_ret
    exact ⟨rfl, rfl⟩
theorem drop_at (s : ByteArray) (i : Nat) (h : i < s.size) : s.data.toList.drop i = (s[i]'h) :: s.data.toList.drop (i + 1) := by
  have e := byte_at s i h
  obtain ⟨h1, h2⟩ := List.getElem?_eq_some_iff.1 e
  rw [List.drop_eq_getElem_cons h1, h2]
theorem drop_end (s : ByteArray) : s.data.toList.drop s.size = [] := List.drop_of_length_le (Nat.le_of_eq rfl)
theorem cmpL_drop (x y : List UInt8) : cmpT x y = Lib.compareInt x.length y.length ∨ (x ≠ [] ∧ y ≠ []) := by
  cases x <;> cases y
  · left; rfl
  · left; symm; exact cmpI_lt (by simp)
  · left; symm; exact cmpI_gt (by simp)
  · right; simp
set_option maxHeartbeats 4000000 in
set_option maxRecDepth 100000 in
theorem pcmp_any (a b : ByteArray) (ha : a.size < 9223372036854775808) (hb : b.size < 9223372036854775808) (w : World) :
    Calls Tryz.prog 107 #[.string a, .string b] w fun e w' => e = .returned (.int .i64 (cmpT a.data.toList b.data.toList)) ∧ ∃ q, w' = w.drewN q := by
  obtain ⟨V, hV⟩ : ∃ V, cmpT a.data.toList b.data.toList = V := ⟨_, rfl⟩
  have HV := Lib.hid hV
  rw [hV]
  clear hV
  go_enter Tryz.func107, Tryz.ntmps107
  go_wp2_with fail
  go_loopw [5, 11] (fun _ vi wr => ∃ i q : Nat, i ≤ min a.size b.size ∧ vi = .int .i64 i ∧ cmpT (a.data.toList.drop i) (b.data.toList.drop i) = V ∧ wr = w.drewN q) (fun _ vi _ => min a.size b.size - (intOf vi).toNat)
  case atStart => exact ⟨0, 0, by omega, rfl, HV.out, rfl⟩
  case round =>
    obtain ⟨i, q, hi, rfl, hv, rfl⟩ := hrel
    by_cases hlt : i < min a.size b.size
    · have ia : i < a.size := by omega
      have ib : i < b.size := by omega
      rw [drop_at a i ia, drop_at b i ib, cmpT] at hv
      have HVV := Lib.hid hv
      have HR1 := Lib.hid (fun w1 => rank_any (a[i]'ia) w1)
      have HR2 := Lib.hid (fun w1 => rank_any (b[i]'ib) w1)
      have k1 : (i : Int) < (a.size : Int) := by omega
      have k2 : (i : Int) < (b.size : Int) := by omega
      have k3 : (0 : Int) ≤ (i : Int) := by omega
      clear hv
      have kd : a[i]'ia = b[i]'ib ∨ ¬ ((a[i]'ia).toNat : Int) = ((b[i]'ib).toNat : Int) := by
        by_cases h : a[i]'ia = b[i]'ib
        · exact .inl h
        · exact .inr (fun e => h (UInt8.toNat_inj.1 (by omega)))
      have HD := Lib.hid kd
      clear kd
      go_wp2_with fail
      refine wp_region_org [(0, true), (1, true), (2, true), (3, true), (4, true), (5, true), (6, true)] (by kernel_rfl) (by kernel_rfl) (by kernel_rfl) ?_
      have e1 : (w.drewN q).drew = w.drewN (q + 1) := rfl
      rw [e1]
      clear e1
      simp only [pickOrs, List.getElem?_cons_zero, List.getElem?_cons_succ]
      refine org_pure (v := ?_) (by kernel_rfl) ?_ ?_
      rotate_left
      · intro w' hv; clear hv; go_simp; try with_reducible rfl
      try simp only [Act.put, List.setIfInBounds_toArray, List.set_cons_zero, List.set_cons_succ]
      refine org_pure (v := ?_) (by kernel_rfl) ?_ ?_
      rotate_left
      · intro w' hv; clear hv; go_simp; try with_reducible rfl
      try simp only [Act.put, List.setIfInBounds_toArray, List.set_cons_zero, List.set_cons_succ]
      refine org_pure (v := ?_) (by kernel_rfl) ?_ ?_
      rotate_left
      · intro w' hv; clear hv; go_simp; try with_reducible rfl
      try simp only [Act.put, List.setIfInBounds_toArray, List.set_cons_zero, List.set_cons_succ]
      refine org_pure (v := ?_) (by kernel_rfl) ?_ ?_
      rotate_left
      · intro w' hv; clear hv; go_simp; try with_reducible rfl
      try simp only [Act.put, List.setIfInBounds_toArray, List.set_cons_zero, List.set_cons_succ]
      refine org_pure (v := ?_) (by kernel_rfl) ?_ ?_
      rotate_left
      · intro w' hv; clear hv; go_simp; try with_reducible rfl
      try simp only [Act.put, List.setIfInBounds_toArray, List.set_cons_zero, List.set_cons_succ]
      refine org_pure (v := ?_) (by kernel_rfl) ?_ ?_
      rotate_left
      · intro w' hv; clear hv; go_simp; try with_reducible rfl
      try simp only [Act.put, List.setIfInBounds_toArray, List.set_cons_zero, List.set_cons_succ]
      refine org_pure (v := ?_) (by kernel_rfl) ?_ ?_
      rotate_left
      · intro w' hv; clear hv; go_simp; try with_reducible rfl
      try simp only [Act.put, List.setIfInBounds_toArray, List.set_cons_zero, List.set_cons_succ]
      refine org_nil ?_
      rcases HD.out with h | h
      · have hvv := HVV.out
        rw [if_pos h] at hvv
        have HV2 := Lib.hid hvv
        rw [h]
        clear hvv
        go_wp2_with fail
        go_roundw
        case rel => exact ⟨i + 1, q + 1, by omega, by go_num, HV2.out, rfl⟩
        case measure => simp [intOf]; omega
      · have hne : ¬ a[i]'ia = b[i]'ib := fun e => h (by rw [e])
        have hvv := HVV.out
        rw [if_neg hne] at hvv
        have HV2 := Lib.hid hvv
        have HC := Lib.hid (fun w1 => compare_any (rankB (a[i]'ia)) (rankB (b[i]'ib)) w1)
        rw [hvv] at HC
        clear hvv hne
        go_wp2_with fail
        refine wp_region_org [(0, true), (1, true), (2, true), (4, true), (5, true), (6, true), (3, false), (7, false), (8, false), (9, true)] (by kernel_rfl) (by kernel_rfl) (by kernel_rfl) ?_
        have e1 : (w.drewN (q + 1)).drew = w.drewN (q + 2) := rfl
        rw [e1]
        clear e1
        simp only [pickOrs, List.getElem?_cons_zero, List.getElem?_cons_succ]
        refine org_pure (v := ?_) (by kernel_rfl) ?_ ?_
        rotate_left
        · intro w' hv; clear hv; go_simp; try with_reducible rfl
        try simp only [Act.put, List.setIfInBounds_toArray, List.set_cons_zero, List.set_cons_succ]
        refine org_pure (v := ?_) (by kernel_rfl) ?_ ?_
        rotate_left
        · intro w' hv; clear hv; go_simp; try with_reducible rfl
        try simp only [Act.put, List.setIfInBounds_toArray, List.set_cons_zero, List.set_cons_succ]
        refine org_pure (v := ?_) (by kernel_rfl) ?_ ?_
        rotate_left
        · intro w' hv; clear hv; go_simp; try with_reducible rfl
        try simp only [Act.put, List.setIfInBounds_toArray, List.set_cons_zero, List.set_cons_succ]
        refine org_pure (v := ?_) (by kernel_rfl) ?_ ?_
        rotate_left
        · intro w' hv; clear hv; go_simp; try with_reducible rfl
        try simp only [Act.put, List.setIfInBounds_toArray, List.set_cons_zero, List.set_cons_succ]
        refine org_pure (v := ?_) (by kernel_rfl) ?_ ?_
        rotate_left
        · intro w' hv; clear hv; go_simp; try with_reducible rfl
        try simp only [Act.put, List.setIfInBounds_toArray, List.set_cons_zero, List.set_cons_succ]
        refine org_pure (v := ?_) (by kernel_rfl) ?_ ?_
        rotate_left
        · intro w' hv; clear hv; go_simp; try with_reducible rfl
        try simp only [Act.put, List.setIfInBounds_toArray, List.set_cons_zero, List.set_cons_succ]
        refine org_step (by kernel_rfl) (fun K hK => ?_)
        go_wp2_with fail
        refine (HR1.out _).mono ?_
        rintro e w1 ⟨rfl, rfl⟩
        refine hK _ _ ⟨Ext.refl _, ?_⟩
        clear hK
        try simp only [Act.put, List.setIfInBounds_toArray, List.set_cons_zero, List.set_cons_succ]
        refine org_step (by kernel_rfl) (fun K hK => ?_)
        go_wp2_with fail
        refine (HR2.out _).mono ?_
        rintro e w1 ⟨rfl, rfl⟩
        refine hK _ _ ⟨Ext.refl _, ?_⟩
        clear hK
        try simp only [Act.put, List.setIfInBounds_toArray, List.set_cons_zero, List.set_cons_succ]
        refine org_step (by kernel_rfl) (fun K hK => ?_)
        go_wp2_with fail
        refine (HC.out _).mono ?_
        rintro e w1 ⟨rfl, rfl⟩
        refine hK _ _ ⟨Ext.refl _, ?_⟩
        clear hK
        try simp only [Act.put, List.setIfInBounds_toArray, List.set_cons_zero, List.set_cons_succ]
        refine org_pure (v := ?_) (by kernel_rfl) ?_ ?_
        rotate_left
        · intro w' hv; clear hv; go_simp; try with_reducible rfl
        try simp only [Act.put, List.setIfInBounds_toArray, List.set_cons_zero, List.set_cons_succ]
        refine org_nil ?_
        go_wp2_with fail
        go_ret
        exact ⟨rfl, _, rfl⟩
    · have hil : i = min a.size b.size := by omega
      have hd := (cmpL_drop (a.data.toList.drop i) (b.data.toList.drop i)).resolve_right (fun ⟨h1, h2⟩ => by
        rcases (by omega : i = a.size ∨ i = b.size) with e | e
        · exact h1 (by rw [e]; exact drop_end a)
        · exact h2 (by rw [e]; exact drop_end b))
      rw [List.length_drop, List.length_drop] at hd
      have hsa : a.data.toList.length = a.size := rfl
      have hsb : b.data.toList.length = b.size := rfl
      have hc : Lib.compareInt (a.size : Int) (b.size : Int) = V := by
        rw [← hv, hd, hsa, hsb]
        unfold Lib.compareInt
        split <;> split <;> (try split) <;> (try split) <;> omega
      have HC := Lib.hid (fun w1 => compare_any (a.size : Int) (b.size : Int) w1)
      rw [hc] at HC
      have k1 : ¬ i < min a.size b.size := hlt
      clear hd hc hv hil hlt hsa hsb
      go_wp2_with (first | ((with_reducible refine (HC.out _).mono ?_); rintro e w1 ⟨rfl, rfl⟩))
      go_ret
      exact ⟨rfl, _, rfl⟩
end Go.Proofs.YtmjonlffhhehjaaGreatDoor
/- Contracts: package tree's where (slices.BinarySearchFunc at entries). Conditions: the entries are in order; paths shorter than 2^63 bytes. -/
namespace Go.Proofs.YtmjonlffhhehjaaGreatDoor
open Go.RowKit
set_option maxHeartbeats 4000000 in
theorem tcmpE_any (x : ByteArray) (d : Bool) (bv : Value) (p : ByteArray) (hx : x.size < 9223372036854775808) (hp : p.size < 9223372036854775808) (w : World) :
    Calls Tryz.prog 137 #[.agg #[.string x, .bool d, bv], .string p] w fun e w' => e = .returned (.int .i64 (cmpT x.data.toList p.data.toList)) ∧ Below w.heap.size w w' := by
  have HC := Lib.hid (fun w1 => pcmp_any x p hx hp w1)
  go_enter Tryz.func137, Tryz.ntmps137
  go_wp2_with (first | ((with_reducible refine (HC.out _).mono ?_); rintro e w1 ⟨rfl, nq, rfl⟩))
  go_ret
  exact ⟨rfl, below_drewN ((Below.refl _ _).alloc (Nat.le_refl _) _) _⟩
/-- The place of a path among entries in order: how many stand ahead of it. -/
def posT (C : List Ent) (p : Tx) : Nat := (C.takeWhile fun e => decide (cmpT e.pa p < 0)).length
theorem posT_le (C : List Ent) (p : Tx) : posT C p ≤ C.length := (List.takeWhile_prefix _).length_le
theorem tw_len {α : Type} (f : α → Bool) : ∀ (C : List α) (j : Nat), j ≤ C.length → (∀ k (hk : k < C.length), k < j → f C[k] = true) → (∀ k (hk : k < C.length), j ≤ k → f C[k] = false) → (C.takeWhile f).length = j
  | [], j, h, _, _ => by simp at h; subst h; rfl
  | e :: C, 0, _, _, h2 => by
    have h := h2 0 (by simp) (Nat.le_refl _)
    simp at h
    rw [List.takeWhile_cons, if_neg (by simp [h])]; rfl
  | e :: C, j + 1, h, h1, h2 => by
    have h0 := h1 0 (by simp) (by omega)
    simp at h0
    rw [List.takeWhile_cons, if_pos h0, List.length_cons, tw_len f C j (by simpa using h) (fun k hk hkj => h1 (k + 1) (by simpa using hk) (by omega)) (fun k hk hkj => h2 (k + 1) (by simpa using hk) (by omega))]
def hasT (C : List Ent) (p : Tx) : Bool := match C[posT C p]? with | some e => decide (cmpT e.pa p = 0) | none => false
set_option maxHeartbeats 16000000 in
set_option maxRecDepth 100000 in
theorem bsearch_any (C : List Ent) (q : Option Addr) (c : Nat) (p : ByteArray) (hm : C.length ≤ 100000) (hn : ∀ e ∈ C, e.1.size < 9223372036854775808) (hp : p.size < 9223372036854775808)
    (hup : ∀ i j (hi : i < C.length) (hj : j < C.length), i ≤ j → cmpT C[j].pa p.data.toList < 0 → cmpT C[i].pa p.data.toList < 0) (w : World) (hs : Sees w w.heap.size q (rowC C)) :
    Calls Tryz.prog 136 #[.slice q C.length c, .string p, .func (.func 137) #[] #[]] w fun e w' => e = .returned (.tuple #[.int .i64 (posT C p.data.toList : Int), .bool (hasT C p.data.toList)]) ∧ Below w.heap.size w w' := by
  have HS := Lib.hid hs
  have HN := Lib.hid hn
  have HUP := Lib.hid hup
  clear hs hn hup
  go_enter Tryz.func136, Tryz.ntmps136
  go_wp2_with fail
  go_loopw [9, 10, 11] (fun vi vj _ wr => ∃ i j : Nat, i ≤ j ∧ j ≤ C.length ∧ vi = .int .i64 i ∧ vj = .int .i64 j ∧ (∀ k (hk : k < C.length), k < i → cmpT C[k].pa p.data.toList < 0) ∧ (∀ k (hk : k < C.length), j ≤ k → 0 ≤ cmpT C[k].pa p.data.toList) ∧ Below w.heap.size w wr) (fun vi vj _ _ => (intOf vj).toNat - (intOf vi).toNat)
  case atStart => exact ⟨0, C.length, by omega, by omega, rfl, rfl, fun _ _ h => absurd h (by omega), fun _ _ h => absurd h (by omega), Below.refl _ _⟩
  case round =>
    rename_i wr
    obtain ⟨i, j, hij, hj, rfl, rfl, hlo, hhi, hB⟩ := hrel
    have HB := Lib.hid hB
    have HLO := Lib.hid hlo
    have HHI := Lib.hid hhi
    clear hB hlo hhi
    by_cases hlt : i < j
    · have kk : (i : Int) < (j : Int) := by omega
      obtain ⟨h, hh⟩ : ∃ h, (i + j) / 2 = h := ⟨_, rfl⟩
      have eh : ((i : Int) + (j : Int)) / 2 = (h : Int) := by omega
      have h1 : i ≤ h := by omega
      have h2 : h < j := by omega
      have hl : h < C.length := by omega
      have kh : (h : Int) < (C.length : Int) := by omega
      obtain ⟨a, rfl, ha, hc⟩ := HS.out.ent hl
      obtain ⟨c1, c2, c3⟩ := hc wr HB.out
      have hsz := HN.out C[h] (List.getElem_mem hl)
      have hpa : C[h].pa = C[h].1.data.toList := rfl
      have HLT : Hid (cmpT C[h].1.data.toList p.data.toList < 0 → ∀ k (hk : k < C.length), k < h + 1 → cmpT C[k].pa p.data.toList < 0) := Lib.hid (fun h0 k hk hkh => HUP.out k h hk hl (by omega) h0)
      have HGE : Hid (¬ cmpT C[h].1.data.toList p.data.toList < 0 → ∀ k (hk : k < C.length), h ≤ k → 0 ≤ cmpT C[k].pa p.data.toList) := Lib.hid (fun h0 k hk hkh => by
        rcases Int.lt_or_le (cmpT C[k].pa p.data.toList) 0 with h | h
        · exact absurd (HUP.out _ k hl hk hkh h) h0
        · exact h)
      generalize C[h].1 = x at *
      generalize C[h].2.1 = d at *
      generalize C[h].2.2.1 = bv at *
      have HC := Lib.hid (fun w1 => tcmpE_any x d bv p hsz hp w1)
      clear hc ha hpa hsz hh
      generalize cmpT x.data.toList p.data.toList = K at *
      by_cases hK : K < 0
      · go_wp2_with (first | ((with_reducible refine (HC.out _).mono ?_); rintro e w1 ⟨rfl, hb1⟩; replace HB := Lib.hid (HB.out.trans (hb1.mono HB.out.size)); clear hb1))
        go_roundw
        case rel => exact ⟨h + 1, j, by omega, hj, by go_num, rfl, HLT.out hK, HHI.out, HB.out⟩
        case measure => simp [intOf]; omega
      · have hKf : (K < 0) = False := eq_false hK
        go_wp2_with (first | ((with_reducible refine (HC.out _).mono ?_); rintro e w1 ⟨rfl, hb1⟩; replace HB := Lib.hid (HB.out.trans (hb1.mono HB.out.size)); clear hb1))
        go_roundw
        case rel => exact ⟨i, h, by omega, by omega, rfl, rfl, HLO.out, HGE.out hK, HB.out⟩
        case measure => simp [intOf]; omega
    · have hji : j = i := by omega
      subst hji
      have k0 : ¬ (j : Int) < (j : Int) := by omega
      have hpos : posT C p.data.toList = j := tw_len _ C j hj (fun k hk h => decide_eq_true (HLO.out k hk h)) (fun k hk h => decide_eq_false (Int.not_lt.2 (HHI.out k hk h)))
      have HP := Lib.hid hpos
      have HHAS : Hid (hasT C p.data.toList = match C[j]? with | some e => decide (cmpT e.pa p.data.toList = 0) | none => false) := Lib.hid (by unfold hasT; rw [hpos])
      by_cases hl : j < C.length
      · obtain ⟨a, rfl, ha, hc⟩ := HS.out.ent hl
        obtain ⟨c1, c2, c3⟩ := hc wr HB.out
        have hsz := HN.out C[j] (List.getElem_mem hl)
        have kh : (j : Int) < (C.length : Int) := by omega
        rw [List.getElem?_eq_getElem hl] at HHAS
        have hpa : C[j].pa = C[j].1.data.toList := rfl
        simp only [hpa] at HHAS
        generalize C[j].1 = x at *
        generalize C[j].2.1 = d at *
        generalize C[j].2.2.1 = bv at *
        have HC := Lib.hid (fun w1 => tcmpE_any x d bv p hsz hp w1)
        clear hc ha hpa hsz hpos
        generalize cmpT x.data.toList p.data.toList = K at *
        by_cases hK : K = 0
        · subst hK
          go_wp2_with (first | ((with_reducible refine (HC.out _).mono ?_); rintro e w1 ⟨rfl, hb1⟩; replace HB := Lib.hid (HB.out.trans (hb1.mono HB.out.size)); clear hb1))
          go_ret2
          exact ⟨by rw [HP.out, HHAS.out]; rfl, HB.out⟩
        · have hKf : (K = 0) = False := eq_false hK
          go_wp2_with (first | ((with_reducible refine (HC.out _).mono ?_); rintro e w1 ⟨rfl, hb1⟩; replace HB := Lib.hid (HB.out.trans (hb1.mono HB.out.size)); clear hb1))
          go_ret2
          exact ⟨by rw [HP.out, HHAS.out]; simp [hK], HB.out⟩
      · have kh : ¬ (j : Int) < (C.length : Int) := by omega
        rw [List.getElem?_eq_none (by omega)] at HHAS
        clear hpos
        go_wp2_with fail
        go_ret2
        exact ⟨by rw [HP.out, HHAS.out]; rfl, HB.out⟩
set_option maxHeartbeats 1000000 in
theorem twhere_any (C : List Ent) (q : Option Addr) (c : Nat) (p : ByteArray) (hm : C.length ≤ 100000) (hn : ∀ e ∈ C, e.1.size < 9223372036854775808) (hp : p.size < 9223372036854775808)
    (hup : ∀ i j (hi : i < C.length) (hj : j < C.length), i ≤ j → cmpT C[j].pa p.data.toList < 0 → cmpT C[i].pa p.data.toList < 0) (w : World) (hs : Sees w w.heap.size q (rowC C)) :
    Calls Tryz.prog 109 #[.slice q C.length c, .string p] w fun e w' => e = .returned (.tuple #[.int .i64 (posT C p.data.toList : Int), .bool (hasT C p.data.toList)]) ∧ Below w.heap.size w w' := by
  have HC := Lib.hid (fun w1 h => bsearch_any C q c p hm hn hp hup w1 h)
  have HS := Lib.hid hs
  clear hs hn hup
  go_enter Tryz.func109, Tryz.ntmps109
  go_wp2_with (first | ((with_reducible refine (HC.out _ HS.out).mono ?_); rintro e w1 ⟨rfl, hb1⟩; have HB := Lib.hid hb1; clear hb1))
  go_ret2
  exact ⟨rfl, HB.out⟩
end Go.Proofs.YtmjonlffhhehjaaGreatDoor
/- Contract: package path's Up. Condition: a text shorter than 2^61 bytes. -/
namespace Go.Proofs.YtmjonlffhhehjaaGreatDoor
open Go.RowKit Go.Shelf
set_option maxHeartbeats 800000 in
theorem up_any (s : ByteArray) (hs : s.size < 2305843009213693952) (w : World) :
    Calls Tryz.prog 108 #[.string s] w fun e w' => e = .returned (.tuple #[.string ⟨(upV s.data.toList).toArray⟩, .bool (okPath s.data.toList)]) ∧ Below w.heap.size w w' := by
  have H1 := Lib.hid (pthgood_any s (by omega) w)
  have H2 := Lib.hid (fun w1 => lastIndex_any s (by omega) w1)
  obtain ⟨r, hr⟩ : ∃ r, Lib.lastIndexByte s 47 = r := ⟨_, rfl⟩
  have hsz : s.data.toList.length = s.size := rfl
  unfold upV
  cases hg : okPath s.data.toList with
  | false =>
    rw [hg] at H1
    clear hr H2 hsz
    go_enter Tryz.func108, Tryz.ntmps108
    go_wp2_with (first | ((with_reducible refine (H1.out).mono ?_); rintro e w1 ⟨rfl, hb1⟩))
    go_ret2
    exact ⟨rfl, hb1⟩
  | true =>
    rw [hg] at H1
    rw [hr] at H2
    rcases last_cases s with ⟨h1, h2⟩ | ⟨i, h0, h1, h2, h3⟩
    · have hu : upL s.data.toList = [] := (up_plain h2).1
      rw [if_pos rfl, hu]
      rw [h1] at hr
      subst hr
      clear h1 h2 hu hsz
      go_enter Tryz.func108, Tryz.ntmps108
      go_wp2_with (first | ((with_reducible refine (H1.out).mono ?_); rintro e w1 ⟨rfl, hb1⟩) | ((with_reducible refine (H2.out _).mono ?_); rintro e w1 ⟨rfl, rfl⟩))
      go_ret2
      exact ⟨congrArg (fun b => Ending.returned (.tuple #[.string b, .bool true])) (show s.extract 0 (max 0 (-1 : Int)).toNat = ⟨#[]⟩ from (cut_upT s 0).symm), hb1⟩
    · have hu : upL s.data.toList = s.data.toList.take i := by
        have h4 := (up_sep (s.data.toList.take i) (s.data.toList.drop (i + 1)) h3).1
        rwa [← h2] at h4
      rw [if_pos rfl, hu]
      rw [h1] at hr
      subst hr
      clear h1 h2 hu
      go_enter Tryz.func108, Tryz.ntmps108
      go_wp2_with (first | ((with_reducible refine (H1.out).mono ?_); rintro e w1 ⟨rfl, hb1⟩) | ((with_reducible refine (H2.out _).mono ?_); rintro e w1 ⟨rfl, rfl⟩))
      go_ret2
      exact ⟨congrArg (fun b => Ending.returned (.tuple #[.string b, .bool true])) (cut_upT s i).symm, hb1⟩
end Go.Proofs.YtmjonlffhhehjaaGreatDoor
/- Contracts: the document's own At, Bytes. Conditions: at most 2^40 entries; all bytes together at most 2^62. -/
namespace Go.Proofs.YtmjonlffhhehjaaGreatDoor
open Go.RowKit
set_option maxHeartbeats 4000000 in
set_option maxRecDepth 100000 in
theorem rat_any (C : List Ent) (q : Option Addr) (c : Nat) (p : ByteArray) (hm : C.length ≤ 1099511627776) (w : World) (hs : Sees w w.heap.size q (rowC C)) :
    Calls Tryz.prog 98 #[.slice q C.length c, .string p] w fun e w' => e = .returned (.int .i64 (atT C p.data.toList)) ∧ w = w' := by
  have HS := Lib.hid hs
  clear hs
  obtain ⟨V, hV⟩ : ∃ V, atT C p.data.toList = V := ⟨_, rfl⟩
  rw [hV]
  have HV := Lib.hid hV
  clear hV
  go_enter Tryz.func98, Tryz.ntmps98
  go_wp2_with fail
  go_loop [5] (fun vi => ∃ i : Nat, i ≤ C.length ∧ vi = .int .i64 i ∧ ∀ e ∈ C.take i, e.pa ≠ p.data.toList) (fun vi => C.length - (intOf vi).toNat)
  case atStart => exact ⟨0, by omega, rfl, by simp⟩
  case round =>
    obtain ⟨i, hi, rfl, hn⟩ := hrel
    have HN := Lib.hid hn
    clear hn
    by_cases hlt : i < C.length
    · obtain ⟨a, rfl, ha, hc⟩ := HS.out.ent hlt
      obtain ⟨c1, _, _⟩ := hc w (Below.refl _ _)
      have kk : (i : Int) < (C.length : Int) := by omega
      obtain ⟨x, hx⟩ : ∃ x, C[i].1 = x := ⟨_, rfl⟩
      rw [hx] at c1
      have hlx : x.toList = x.data.toList := Lib.toList_data x
      have hlp : p.toList = p.data.toList := Lib.toList_data p
      have hpa : C[i].pa = x.data.toList := by rw [← hx]; rfl
      have HPA := Lib.hid hpa
      clear hc ha hx hpa
      by_cases he : x.data.toList = p.data.toList
      · have hv : V = (i : Int) := by rw [← HV.out]; exact atT_at hlt HN.out (HPA.out.trans he)
        subst hv
        have k1 : (x.data.toList == p.data.toList) = true := by rw [beq_iff_eq]; exact he
        clear he
        go_wp2_with fail
        go_ret
        try exact ⟨rfl, rfl⟩
      · have k1 : (x.data.toList == p.data.toList) = false := by rw [beq_eq_false_iff_ne]; exact he
        have HNX : Hid (∀ e ∈ C.take (i + 1), e.pa ≠ p.data.toList) := Lib.hid (by
          intro e h
          rw [List.take_add_one, List.getElem?_eq_getElem hlt] at h
          rcases List.mem_append.1 h with h | h
          · exact HN.out e h
          · have : e = C[i] := by simpa using h
            rw [this, HPA.out]; exact he)
        clear he
        go_wp2_with fail
        go_round
        case rel => exact ⟨i + 1, by omega, by go_num, HNX.out⟩
        case measure => simp [intOf]; omega
    · have hil : i = C.length := by omega
      subst hil
      have k0 : ¬ (C.length : Int) < (C.length : Int) := by omega
      have hv : V = -1 := by rw [← HV.out]; exact atT_no (fun e he => HN.out e (by rw [List.take_length]; exact he))
      subst hv
      clear hlt
      go_wp2_with fail
      go_ret
      try exact ⟨rfl, rfl⟩
set_option maxHeartbeats 4000000 in
set_option maxRecDepth 100000 in
theorem rbytes_any (C : List Ent) (q : Option Addr) (c : Nat) (hm : C.length ≤ 1099511627776) (hb : bytesT C ≤ 4611686018427387904) (w : World) (hs : Sees w w.heap.size q (rowC C)) (hE : Ents w C) :
    Calls Tryz.prog 99 #[.slice q C.length c] w fun e w' => e = .returned (.int .i64 (bytesT C : Nat)) ∧ w = w' := by
  have HS := Lib.hid hs
  have HE := Lib.hid hE
  clear hs hE
  go_enter Tryz.func99, Tryz.ntmps99
  go_wp2_with fail
  go_loop [3, 4] (fun vn vi => ∃ i : Nat, i ≤ C.length ∧ vi = .int .i64 i ∧ vn = .int .i64 (bytesT (C.take i) : Nat)) (fun _ vi => C.length - (intOf vi).toNat)
  case atStart => exact ⟨0, by omega, rfl, rfl⟩
  case round =>
    obtain ⟨i, hi, rfl, rfl⟩ := hrel
    by_cases hlt : i < C.length
    · obtain ⟨a, rfl, ha, hc⟩ := HS.out.ent hlt
      obtain ⟨_, _, c1⟩ := hc w (Below.refl _ _)
      obtain ⟨qb, cb, hv, _, _, _⟩ := HE.out C[i] (List.getElem_mem hlt)
      have hadd := bytesT_add C i hlt
      have hle := bytesT_take C (i + 1)
      rw [show C[i].2.2.1 = .slice qb C[i].by.length cb from hv] at c1
      have kk : (i : Int) < (C.length : Int) := by omega
      obtain ⟨m, hm2⟩ : ∃ m, C[i].by.length = m := ⟨_, rfl⟩
      obtain ⟨s, hs2⟩ : ∃ s, bytesT (C.take i) = s := ⟨_, rfl⟩
      rw [hm2] at c1 hadd
      rw [hs2] at hadd ⊢
      rw [hadd] at hle
      have HAD := Lib.hid hadd
      clear hc ha hv hm2 hadd
      go_wp2_with fail
      go_round
      case rel => exact ⟨i + 1, by omega, by go_num, by rw [HAD.out]; go_num⟩
      case measure => simp [intOf]; omega
    · have hil : i = C.length := by omega
      subst hil
      have k0 : ¬ (C.length : Int) < (C.length : Int) := by omega
      rw [List.take_length]
      clear hlt
      go_wp2_with fail
      go_ret
      try exact ⟨rfl, rfl⟩
end Go.Proofs.YtmjonlffhhehjaaGreatDoor
/- Contract: the document's own 'without'. Condition: at most 10^6 entries. -/
namespace Go.Proofs.YtmjonlffhhehjaaGreatDoor
open Go.RowKit
theorem ent_info : (Tryz.prog.info? 122).map (fun i => (i.zero, i.size, i.bytes)) = some (some (.agg #[.string ⟨#[]⟩, .bool false, .slice none 0 0]), 3, 48) := by kernel_rfl
theorem own_base3 {w : World} {base n : Nat} {e : TypeId} {v : Value} {xs : List Value} (h : w.ownsRow base e 3 v n xs) : ∀ k, Value.ownBlock v = some k → base ≤ k := by
  intro k hk
  rcases h.2 with ⟨rfl, _⟩ | ⟨g, cap, cur, rfl, hb, _⟩
  · cases hk
  · have e : g = k := by simpa [Value.ownBlock] using hk
    omega
theorem own_below3 {w w' : World} {base n : Nat} {e : TypeId} {v : Value} {xs : List Value} (h : w.ownsRow base e 3 v n xs) (hb : RowKit.Below w.heap.size w w') : w'.ownsRow base e 3 v n xs :=
  h.kept (row := none) ⟨hb.os, hb.tape, hb.output, hb.size, fun k hk _ => hb.block k hk⟩ (by
    rcases h.2 with ⟨rfl, _⟩ | ⟨k, cap, cur, rfl, _⟩
    · exact .inl rfl
    · exact .inr (by simp [Value.ownBlock]))
/-- A row of entries of the call's own. -/
def OwnE (w : World) (base : Nat) (v : Value) (C : List Ent) : Prop := w.ownsRow base 122 3 v C.length (rowC C)
theorem OwnE.nil (w : World) (base : Nat) : OwnE w base (.slice none 0 0) [] := World.ownsRow_nil w base 122 3
theorem OwnE.tr {w : World} {base : Nat} {v : Value} {C : List Ent} (h : OwnE w base v C) : TrV w v C := by
  rcases h.2 with ⟨rfl, h0⟩ | ⟨g, cap, cur, rfl, hb, hg, h1, _⟩
  · have : C = [] := List.eq_nil_of_length_eq_zero h0
    subst this
    exact ⟨none, 0, rfl, Nat.le_refl _, fun _ => rfl, Sees.nil _ _ _⟩
  · refine ⟨_, cap, rfl, h1, fun e => by (cases e), fun _ => ⟨_, rfl, (Array.getElem?_eq_some_iff.1 hg).1, ?_⟩⟩
    exact World.ownsRow.cells h (g := g) rfl
/-- One entry is put behind a row that the call owns. -/
theorem wp_addE {ops : Array Oper} {rest : List Oper} {o : Oper} {a : Act} {Q : Exit → Act → World → Prop}
    (hgd : o.guard = none) (sl x : Operand) (ho : o.op = .call { callee := .builtin .append, args := #[sl, x], argTypes := #[59, 59] }) {w : World} {base : Nat} {v : Value} {C : List Ent} (R : OwnE w base v C) (hbase : base ≤ w.heap.size)
    (hs : a.eval sl = v) (g : Nat) (e : Ent) (hx : a.eval x = .slice (some ⟨g, 0, none⟩) 1 1) (hc : Has w g 122 (entC e)) (h1 : e.2.2.1.oneCell' = true) (hn : C.length ≤ 1000000)
    (h : ∀ v' w', OwnE w' base v' (C ++ [e]) → Below base w w' → wpList Tryz.prog ops Q rest (a.put o.dst v') w') : wpList Tryz.prog ops Q (o :: rest) a w := by
  obtain ⟨i0, hi, hz0, hz1, hz2⟩ := info_parts ent_info
  refine wpList_append_own _ hgd sl x 59 ho base 122 i0 _ 3 48 Tryz.underlying59 hi hz0 hz1 hz2 rfl (by decide) v C.length (rowC C) hs R ⟨g, 0, none⟩ 1 1 (entC e) hx rfl ?_ ?_ (by unfold maxLen; omega) ?_ hbase
    fun v' w' ho' hg' _ => h v' w' (by unfold OwnE; rw [rowC_add, List.length_append]; exact ho') ((Below.refl base w).grown hg' hbase (fun k hk => own_base3 R k hk))
  · intro j u hj
    have e2 : (Addr.add ⟨g, 0, none⟩ j) = ⟨g, j, none⟩ := by unfold Addr.add; split <;> simp_all
    rw [e2]; exact hc.cellv hj
  · intro u hu
    simp only [entC, List.mem_cons, List.mem_nil_iff, or_false] at hu
    rcases hu with rfl | rfl | rfl
    · rfl
    · rfl
    · exact h1
  · exact Nat.le_trans (Nat.mul_le_mul (show C.length + 1 ≤ 1000001 by omega) (Nat.le_refl 48)) (by decide)
def withoutT (C : List Ent) (p : Tx) : List Ent := C.filter fun e => !(e.pa == p)
end Go.Proofs.YtmjonlffhhehjaaGreatDoor
/- Contract: the document's own Up. Condition: a text of at most 2^20 bytes. -/
namespace Go.Proofs.YtmjonlffhhehjaaGreatDoor
open Go.RowKit
set_option maxHeartbeats 2000000 in
theorem rup_any (s : ByteArray) (hs : s.size ≤ 1048576) (w : World) :
    Calls Tryz.prog 97 #[.string s] w fun e w' => e = .returned (.tuple #[.string ⟨(upV s.data.toList).toArray⟩, .bool (okPath s.data.toList)]) ∧ Below w.heap.size w w' := by
  have HG := Lib.hid (rpgood_any s hs w)
  have HN := Lib.hid (fun w1 => pnames_any s hs w1)
  unfold upV upL
  cases hg : okPath s.data.toList with
  | false =>
    rw [hg] at HG
    clear hg
    go_enter Tryz.func97, Tryz.ntmps97
    go_wp2_with fail
    refine (HG.out).mono ?_
    rintro e w1 ⟨rfl, hb⟩
    go_wp2_with fail
    go_ret2
    exact ⟨rfl, hb⟩
  | true =>
    rw [hg] at HG
    rw [if_pos rfl]
    have hall : ∀ n ∈ nms s.data.toList, okName n = true ∧ 47 ∉ n := fun n hn => by
      unfold okPath at hg
      rw [Bool.and_eq_true] at hg
      exact ⟨List.all_eq_true.1 hg.2 n hn, nms_no _ n hn⟩
    have hn4 : (nms s.data.toList).length ≤ 4 := by
      unfold okPath at hg
      rw [Bool.and_eq_true] at hg
      exact of_decide_eq_true hg.1
    clear hg
    have h0 := nms_pos s.data.toList
    have hcl : (nms s.data.toList).length ≤ 1048577 := by rw [nms_count]; have : s.data.toList.count 47 ≤ s.data.toList.length := List.count_le_length; have : s.data.toList.length = s.size := rfl; omega
    generalize nms s.data.toList = N at *
    obtain ⟨V, hV⟩ : ∃ V : ByteArray, (⟨(jn N.dropLast).toArray⟩ : ByteArray) = V := ⟨_, rfl⟩
    have HV : Hid (V.data.toList = jn N.dropLast) := Lib.hid (by rw [← hV])
    rw [hV]
    clear hV
    go_enter Tryz.func97, Tryz.ntmps97
    go_wp2_with fail
    refine (HG.out).mono ?_
    rintro e w1 ⟨rfl, hb⟩
    have HB := Lib.hid hb
    clear hb
    go_wp2_with fail
    refine (HN.out _).mono ?_
    rintro e w2 ⟨⟨v, rfl, q, c, rfl, hc, hsee⟩, hb⟩
    replace HB := Lib.hid (HB.out.trans (hb.mono HB.out.size))
    clear hb
    obtain ⟨ad, rfl, hap, hcell⟩ := hsee.get (by rw [List.length_map]; omega)
    have HC := Lib.hid hcell
    clear hcell hsee
    go_wp2_with fail
    go_loop [5, 6] (fun vs vi => ∃ (i : Nat) (t : ByteArray), i + 1 ≤ N.length ∧ vi = .int .i64 i ∧ vs = .string t ∧ t.data.toList = jn (N.take i)) (fun _ vi => N.length - (intOf vi).toNat)
    case atStart => exact ⟨0, ⟨#[]⟩, by omega, rfl, rfl, rfl⟩
    case round =>
      obtain ⟨i, t, hi, rfl, rfl, ht⟩ := hrel
      have kw : IntKind.i64.wrap ((i : Int) + 1) = (i : Int) + 1 := by rw [IntWalk.i64_in _ (by omega)]
      have hts : t.size ≤ 68 := by
        have h1 := jn_len (T := N.take i) (fun n hn => hall n (List.mem_of_mem_take hn))
        rw [← ht] at h1
        have h2 : t.data.toList.length = t.size := rfl
        rw [h2, List.length_take] at h1
        omega
      by_cases hlt : i + 1 < N.length
      · have hil : i < N.length := by omega
        have c1 := HC.out i (.string ⟨N[i].toArray⟩) (by rw [List.getElem?_map, List.getElem?_eq_getElem hil]; rfl)
        have htk : N.take (i + 1) = N.take i ++ [N[i]] := by rw [List.take_add_one, List.getElem?_eq_getElem hil]; rfl
        have hx : (⟨N[i].toArray⟩ : ByteArray).data.toList = N[i] := rfl
        have hxs : (⟨N[i].toArray⟩ : ByteArray).size ≤ 16 := by
          have h1 := ok_len (hall N[i] (List.getElem_mem hil)).1
          show N[i].toArray.size ≤ 16
          simpa using h1
        have kl : (i : Int) + 1 < (N.length : Int) := by omega
        have kl2 : (i : Int) < (N.length : Int) := by omega
        by_cases h0 : i = 0
        · have hte : t.data.toList = [] := by rw [ht, h0]; rfl
          have ht0 : N.take i = [] := by rw [h0]; rfl
          have HRES : Hid ((t ++ ⟨N[i].toArray⟩).data.toList = jn (N.take (i + 1))) := Lib.hid (by
            rw [htk, ht0, ByteArray.data_append, Array.toList_append, hte, hx]; rfl)
          have k0 : ¬ (0 : Int) < (i : Int) := by omega
          have k0n : ¬ 0 < i := by omega
          clear ht0
          generalize (⟨N[i].toArray⟩ : ByteArray) = x at *
          clear htk hx h0 hte ht
          go_wp2_with fail
          go_round
          case rel => exact ⟨i + 1, _, by omega, by go_num, rfl, HRES.out⟩
          case measure => simp [intOf]; omega
        · have hne : N.take i ≠ [] := fun e => h0 (by have h9 := congrArg List.length e; rw [List.length_take, List.length_nil] at h9; omega)
          have HRES : Hid ((t ++ ⟨#[47]⟩ ++ ⟨N[i].toArray⟩).data.toList = jn (N.take (i + 1))) := Lib.hid (by
            rw [htk, jn_snoc hne, ByteArray.data_append, ByteArray.data_append, Array.toList_append, Array.toList_append, ht, hx]; simp)
          have k0 : (0 : Int) < (i : Int) := by omega
          have k0n : 0 < i := by omega
          generalize (⟨N[i].toArray⟩ : ByteArray) = x at *
          clear htk hx h0 hne ht
          go_wp2_with fail
          go_round
          case rel => exact ⟨i + 1, _, by omega, by go_num, rfl, HRES.out⟩
          case measure => simp [intOf]; omega
      · have hie : i + 1 = N.length := by omega
        have htv : t = V := by
          have h1 := HV.out
          rw [← take_last N hie, ← ht] at h1
          rw [← Lib.mk_data t, ← Lib.mk_data V, h1]
        subst htv
        have kl : ¬ (i : Int) + 1 < (N.length : Int) := by omega
        clear ht hlt hie
        go_wp2_with fail
        go_ret2
        exact ⟨rfl, HB.out⟩
end Go.Proofs.YtmjonlffhhehjaaGreatDoor
/- Contract: the document's own 'room': what a new entry's Up tells. Conditions: at most 10^6 entries, a text of at most 2^20 bytes. -/
namespace Go.Proofs.YtmjonlffhhehjaaGreatDoor
open Go.RowKit
def dirT (C : List Ent) (k : Nat) : Bool := ((C[k]?).map Ent.dir).getD false
/-- What stands at a text's place: 0 a directory (or the top), ENONE, EKIND. -/
def roomT (C : List Ent) (p : Tx) : Int := if upV p = [] then 0 else if atT C (upV p) < 0 then 5 else if dirT C (atT C (upV p)).toNat = true then 0 else 7
end Go.Proofs.YtmjonlffhhehjaaGreatDoor
