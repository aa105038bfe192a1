/- The order of byte lists: its values, that it is carried on, that it is the order of their texts, and that their words tell them apart. Conditions: equal lengths; for the words, thirty-two bytes. -/
import Derived.Test.YtpfckamobjcdhaaDoorCmp
namespace Go.Proofs.YtpfckamobjcdhaaDoor
open Go.RowKit
theorem cmpL_vals : ∀ (x y : List (BitVec 8)), cmpL x y = -1 ∨ cmpL x y = 0 ∨ cmpL x y = 1
  | [], _ => by simp [cmpL]
  | _ :: _, [] => by simp [cmpL]
  | a :: x, b :: y => by
    have := cmpL_vals x y
    unfold cmpL
    split
    · exact .inl rfl
    · split
      · exact .inr (.inr rfl)
      · exact this
theorem cmpL_trans : ∀ (x y z : List (BitVec 8)), x.length = y.length → y.length = z.length → (cmpL x y ≤ 0 → cmpL y z ≤ 0 → cmpL x z ≤ 0) ∧ (cmpL x y < 0 → cmpL y z ≤ 0 → cmpL x z < 0)
  | [], _, _, _, _ => by simp [cmpL]
  | a :: x, b :: y, c :: z, h1, h2 => by
    have ih := cmpL_trans x y z (by simpa using h1) (by simpa using h2)
    unfold cmpL
    by_cases h1 : B a < B b
    · by_cases h2 : B b < B c
      · have h3 : B a < B c := by omega
        simp [h1, h2, h3]
      · by_cases h4 : B c < B b
        · simp [h1, h2, h4]
        · have h3 : B a < B c := by omega
          simp [h1, h3]
    · by_cases h5 : B b < B a
      · simp [h1, h5]
      · by_cases h2 : B b < B c
        · have h3 : B a < B c := by omega
          simp [h1, h5, h2, h3]
        · by_cases h4 : B c < B b
          · simp [h1, h5, h2, h4]
          · have h3 : ¬ B a < B c := by omega
            have h6 : ¬ B c < B a := by omega
            simpa only [h1, h5, h2, h4, h3, h6, if_false] using ih
  | _ :: _, [], _, h1, _ => by simp at h1
  | _ :: _, _ :: _, [], _, h2 => by simp at h2

theorem hexd_lt : ∀ n m : Fin 16, (UInt8.ofBitVec (hexd (BitVec.ofNat 8 n)) < UInt8.ofBitVec (hexd (BitVec.ofNat 8 m)) ↔ n < m) ∧ (UInt8.ofBitVec (hexd (BitVec.ofNat 8 n)) = UInt8.ofBitVec (hexd (BitVec.ofNat 8 m)) ↔ n = m) := by
  decide +kernel
theorem hi_nat (a : BitVec 8) : (a >>> 4).toNat = a.toNat / 16 := by rw [BitVec.toNat_ushiftRight, Nat.shiftRight_eq_div_pow]
theorem lo_nat (a : BitVec 8) : (a &&& 15).toNat = a.toNat % 16 := by
  rw [BitVec.toNat_and]
  exact Nat.and_two_pow_sub_one_eq_mod a.toNat 4
theorem hex_cmp (p q : BitVec 8) (hp : p.toNat < 16) (hq : q.toNat < 16) : (UInt8.ofBitVec (hexd p) < UInt8.ofBitVec (hexd q) ↔ p.toNat < q.toNat) ∧ (UInt8.ofBitVec (hexd p) = UInt8.ofBitVec (hexd q) ↔ p.toNat = q.toNat) := by
  have := hexd_lt ⟨p.toNat, hp⟩ ⟨q.toNat, hq⟩
  simpa using this
theorem text_less : ∀ (x y : List (BitVec 8)), x.length = y.length → Op.bytesLess ((textOf x).map UInt8.ofBitVec) ((textOf y).map UInt8.ofBitVec) = decide (cmpL x y < 0)
  | [], [], _ => by simp [cmpL, textOf, Op.bytesLess]
  | a :: x, b :: y, h => by
    have ih := text_less x y (by simpa using h)
    have e : ∀ (a : BitVec 8) x, textOf (a :: x) = hexd (a >>> 4) :: hexd (a &&& 15) :: textOf x := fun a x => rfl
    have ha := a.isLt
    have hb := b.isLt
    have c1 := hex_cmp (a >>> 4) (b >>> 4) (by rw [hi_nat]; omega) (by rw [hi_nat]; omega)
    have c2 := hex_cmp (a &&& 15) (b &&& 15) (by rw [lo_nat]; omega) (by rw [lo_nat]; omega)
    rw [hi_nat, hi_nat] at c1
    rw [lo_nat, lo_nat] at c2
    rw [e, e]
    simp only [List.map_cons, Op.bytesLess, ih]
    rw [Bool.eq_iff_iff]
    simp only [Bool.or_eq_true, Bool.and_eq_true, decide_eq_true_eq, beq_iff_eq, c1.1, c1.2, c2.1, c2.2]
    have hu : cmpL (a :: x) (b :: y) = if (a.toNat : Int) < b.toNat then -1 else if (b.toNat : Int) < a.toNat then 1 else cmpL x y := rfl
    rw [hu]
    by_cases h1 : (a.toNat : Int) < b.toNat
    · simp only [if_pos h1]; omega
    · by_cases h2 : (b.toNat : Int) < a.toNat
      · simp only [if_neg h1, if_pos h2]; omega
      · simp only [if_neg h1, if_neg h2]
        have : a.toNat = b.toNat := by omega
        simp [this]
  | [], _ :: _, h => by simp at h
  | _ :: _, [], h => by simp at h
theorem str_less (x y : List (BitVec 8)) (h : x.length = y.length) : Op.bytesLess (strB (textOf x)).toList (strB (textOf y)).toList = decide (cmpL x y < 0) := by
  rw [ByteArray.toList_eq, ByteArray.toList_eq]
  exact text_less x y h

theorem wordTo_nat (l : List (BitVec 8)) (i : Nat) : ∀ n, n ≤ 8 → (wordTo l i n).toNat < 2 ^ (8 * n) ∧ (n < 8 → (wordTo l i (n + 1)).toNat = (wordTo l i n).toNat * 256 + (at8 l (8 * i + (7 - n))).toNat) := by
  have step : ∀ (v : BitVec 64) (b : BitVec 8), v.toNat < 2 ^ 56 → ((v <<< 8) ||| w64 b).toNat = v.toNat * 256 + b.toNat := by
    intro v b hv
    have hb := b.isLt
    unfold w64
    rw [BitVec.toNat_or, BitVec.toNat_shiftLeft, BitVec.toNat_setWidth, Nat.shiftLeft_eq, Nat.mod_eq_of_lt (by omega), Nat.mod_eq_of_lt (by omega), ← Nat.shiftLeft_eq, ← Nat.shiftLeft_add_eq_or_of_lt (by omega : b.toNat < 2 ^ 8), Nat.shiftLeft_eq]
  intro n
  induction n with
  | zero => exact fun _ => ⟨by simp [wordTo], fun _ => step _ _ (by simp [wordTo])⟩
  | succ n ih =>
    intro hn
    obtain ⟨h1, h2⟩ := ih (by omega)
    have h3 := h2 (by omega)
    have hb := (at8 l (8 * i + (7 - n))).isLt
    have hlt : (wordTo l i (n + 1)).toNat < 2 ^ (8 * (n + 1)) := by
      rw [h3, Nat.mul_add, Nat.pow_add]; omega
    refine ⟨hlt, fun h => step _ _ (Nat.lt_of_lt_of_le hlt (Nat.pow_le_pow_right (by omega) (by omega)))⟩
theorem word_bytes (x y : List (BitVec 8)) (i : Nat) : ∀ n, n ≤ 8 → wordTo x i n = wordTo y i n → ∀ k, k < n → at8 x (8 * i + (7 - k)) = at8 y (8 * i + (7 - k)) := by
  intro n
  induction n with
  | zero => intro _ _ k hk; omega
  | succ n ih =>
    intro hn he k hk
    have hx := (wordTo_nat x i n (by omega)).2 (by omega)
    have hy := (wordTo_nat y i n (by omega)).2 (by omega)
    have bx := (at8 x (8 * i + (7 - n))).isLt
    have by' := (at8 y (8 * i + (7 - n))).isLt
    rw [he, hy] at hx
    by_cases hkn : k = n
    · subst hkn
      exact BitVec.eq_of_toNat_eq (by omega)
    · exact ih (by omega) (BitVec.eq_of_toNat_eq (by omega)) k (by omega)
theorem words_eq (x y : List (BitVec 8)) (hx : x.length = 32) (hy : y.length = 32) : (∀ j : Nat, j < 4 → wordOf x j = wordOf y j) ↔ x = y := by
  refine ⟨fun h => ?_, fun h => by rw [h]; exact fun _ _ => rfl⟩
  refine List.ext_getElem (by omega) (fun m h1 h2 => ?_)
  have hj := h (m / 8) (by omega)
  have e : ∀ l, wordOf l ((m / 8 : Nat) : Int) = wordTo l (m / 8) 8 := fun l => by unfold wordOf; rw [if_pos (by omega), Int.toNat_natCast]
  rw [e, e] at hj
  have := word_bytes x y (m / 8) 8 (Nat.le_refl _) hj (7 - m % 8) (by omega)
  rw [show 8 * (m / 8) + (7 - (7 - m % 8)) = m by omega] at this
  simpa [at8, List.getD_eq_getElem?_getD, List.getElem?_eq_getElem h1, List.getElem?_eq_getElem h2] using this
end Go.Proofs.YtpfckamobjcdhaaDoor
