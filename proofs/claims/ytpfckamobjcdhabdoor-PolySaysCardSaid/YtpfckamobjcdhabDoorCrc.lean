/- CRC-32 by a linear step, its table, products of rests: plain laws. No condition. -/
import Derived.WalkKit
namespace Go.Proofs.YtpfckamobjcdhabDoor

/-- The divisor; times x; times x^k. -/
def dvs : BitVec 32 := 0xEDB88320#32
def nx (p : BitVec 32) : BitVec 32 := (p >>> 1) ^^^ (if p.getLsbD 0 then dvs else 0#32)
def nxs : Nat → BitVec 32 → BitVec 32
  | 0, p => p
  | k + 1, p => nxs k (nx p)
def onep : BitVec 32 := 0x80000000#32
def bit32 (i : Nat) : BitVec 32 := 1#32 <<< i

/-- A map that lets exclusive or by. -/
def Lin (f : BitVec 32 → BitVec 32) : Prop := ∀ p q, f (p ^^^ q) = f p ^^^ f q
theorem x4 (a b c d : BitVec 32) : (a ^^^ b) ^^^ (c ^^^ d) = (a ^^^ c) ^^^ (b ^^^ d) := by
  apply BitVec.eq_of_getLsbD_eq; intro i _
  simp only [BitVec.getLsbD_xor]
  cases a.getLsbD i <;> cases b.getLsbD i <;> cases c.getLsbD i <;> cases d.getLsbD i <;> rfl
theorem Lin.zero {f : BitVec 32 → BitVec 32} (h : Lin f) : f 0#32 = 0#32 := by
  have := h 0#32 0#32
  rw [BitVec.xor_self] at this
  rw [this, BitVec.xor_self]
theorem nx_lin : Lin nx := by
  intro p q
  unfold nx
  rw [BitVec.ushiftRight_xor_distrib, BitVec.getLsbD_xor]
  have e : (if (p.getLsbD 0 ^^ q.getLsbD 0) = true then dvs else 0#32) = (if p.getLsbD 0 = true then dvs else 0#32) ^^^ (if q.getLsbD 0 = true then dvs else 0#32) := by
    cases p.getLsbD 0 <;> cases q.getLsbD 0 <;> simp
  rw [e, x4]
theorem nxs_lin (k : Nat) : Lin (nxs k) := by
  induction k with
  | zero => exact fun _ _ => rfl
  | succ k ih => intro p q; simp only [nxs]; rw [nx_lin, ih]
theorem nxs_add (j k : Nat) (p : BitVec 32) : nxs (j + k) p = nxs k (nxs j p) := by
  induction j generalizing p with
  | zero => simp [nxs]
  | succ j ih => rw [show j + 1 + k = (j + k) + 1 by omega, nxs, ih, nxs]
theorem nxs_succ (k : Nat) (p : BitVec 32) : nxs (k + 1) p = nx (nxs k p) := nxs_add k 1 p

/-- The lowest k bits. -/
def low : Nat → BitVec 32 → BitVec 32
  | 0, _ => 0#32
  | k + 1, c => low k c ^^^ (if c.getLsbD k then bit32 k else 0#32)
theorem bit32_get (k i : Nat) (hi : i < 32) : (bit32 k).getLsbD i = decide (i = k) := by
  unfold bit32
  rw [BitVec.getLsbD_shiftLeft, BitVec.getLsbD_one]
  by_cases h : i = k
  · subst h; simp [hi]
  · by_cases h2 : i < k
    · simp [h, h2]
    · have h3 : ¬ i - k = 0 := by omega
      simp [h, h3]
theorem low_get (c : BitVec 32) (i : Nat) (hi : i < 32) : ∀ k, (low k c).getLsbD i = (decide (i < k) && c.getLsbD i)
  | 0 => by simp [low]
  | k + 1 => by
    rw [low, BitVec.getLsbD_xor, low_get c i hi k]
    by_cases h : i = k
    · subst h
      cases hc : c.getLsbD i
      · simp
      · simp [bit32_get i i hi]
    · have e : (if c.getLsbD k = true then bit32 k else 0#32).getLsbD i = false := by
        cases c.getLsbD k
        · simp
        · simp [bit32_get k i hi, h]
      rw [e, Bool.xor_false]
      have : (i < k) = (i < k + 1) := by apply propext; omega
      rw [show decide (i < k) = decide (i < k + 1) by simp only [this]]
theorem low_32 (c : BitVec 32) : low 32 c = c := by
  apply BitVec.eq_of_getLsbD_eq; intro i hi
  rw [low_get c i hi 32]; simp [hi]
/-- What the bits of c pick of a row, put together. -/
def pick (m : Nat → BitVec 32) (c : BitVec 32) : Nat → BitVec 32
  | 0 => 0#32
  | k + 1 => pick m c k ^^^ (if c.getLsbD k then m k else 0#32)
theorem pick_lin {f : BitVec 32 → BitVec 32} (hf : Lin f) {m : Nat → BitVec 32} (hm : ∀ i, i < 32 → m i = f (bit32 i)) (c : BitVec 32) : ∀ k, k ≤ 32 → pick m c k = f (low k c)
  | 0, _ => by
    show 0#32 = f 0#32
    rw [hf.zero]
  | k + 1, h => by
    rw [pick, pick_lin hf hm c k (by omega), low, hf, hm k (by omega)]
    cases c.getLsbD k
    · simp [hf.zero]
    · simp
theorem pick_all {f : BitVec 32 → BitVec 32} (hf : Lin f) {m : Nat → BitVec 32} (hm : ∀ i, i < 32 → m i = f (bit32 i)) (c : BitVec 32) : pick m c 32 = f c := by
  rw [pick_lin hf hm c 32 (Nat.le_refl _), low_32]
theorem lin_ext {f g : BitVec 32 → BitVec 32} (hf : Lin f) (hg : Lin g) (h : ∀ i, i < 32 → f (bit32 i) = g (bit32 i)) (c : BitVec 32) : f c = g c := by
  rw [← pick_all hf (m := fun i => f (bit32 i)) (fun _ _ => rfl) c, pick_all hg h c]

/-- The table's numbers: what the lowest four bits come to. -/
def restRow : List (BitVec 32) := [0x00000000#32, 0x1db71064#32, 0x3b6e20c8#32, 0x26d930ac#32, 0x76dc4190#32, 0x6b6b51f4#32, 0x4db26158#32, 0x5005713c#32, 0xedb88320#32, 0xf00f9344#32, 0xd6d6a3e8#32, 0xcb61b38c#32, 0x9b64c2b0#32, 0x86d3d2d4#32, 0xa00ae278#32, 0xbdbdf21c#32]
theorem rest_row : ∀ n, n < 16 → nxs 4 (BitVec.ofNat 32 n) = restRow.getD n 0#32 := by decide
theorem and_xor (m p q : BitVec 32) : (p ^^^ q) &&& m = (p &&& m) ^^^ (q &&& m) := by
  apply BitVec.eq_of_getLsbD_eq; intro i _
  simp only [BitVec.getLsbD_xor, BitVec.getLsbD_and]
  cases p.getLsbD i <;> cases q.getLsbD i <;> cases m.getLsbD i <;> rfl
theorem shr_lin (k : Nat) : Lin (· >>> k) := fun _ _ => BitVec.ushiftRight_xor_distrib ..
theorem high_four : ∀ i, i < 32 → nxs 4 (bit32 i &&& 0xfffffff0#32) = bit32 i >>> 4 := by decide
theorem and_lt (c : BitVec 32) : (c &&& 15#32).toNat < 16 := by
  rw [BitVec.toNat_and]; exact Nat.lt_of_le_of_lt Nat.and_le_right (by decide)
theorem nibble (c : BitVec 32) : (c >>> 4) ^^^ restRow.getD (c &&& 15#32).toNat 0#32 = nxs 4 c := by
  have e : c = (c &&& 0xfffffff0#32) ^^^ (c &&& 15#32) := by
    have := lin_ext (f := fun c => c) (g := fun c => (c &&& 0xfffffff0#32) ^^^ (c &&& 15#32)) (fun _ _ => rfl)
      (fun p q => by simp only [and_xor]; rw [x4]) (by decide) c
    exact this
  have h1 : nxs 4 (c &&& 0xfffffff0#32) = c >>> 4 :=
    lin_ext (f := fun c => nxs 4 (c &&& 0xfffffff0#32)) (g := fun c => c >>> 4) (fun p q => by simp only [and_xor]; rw [nxs_lin]) (shr_lin 4) high_four c
  have h2 := rest_row _ (and_lt c)
  rw [BitVec.ofNat_toNat, BitVec.setWidth_eq] at h2
  conv => rhs; rw [e, nxs_lin, h1, h2]

/-- Bytes through the rest. -/
def byte32 (x : BitVec 8) : BitVec 32 := x.setWidth 32
def crcS : BitVec 32 → List (BitVec 8) → BitVec 32
  | s, [] => s
  | s, x :: r => crcS (nxs 8 (s ^^^ byte32 x)) r
theorem crcS_append (s : BitVec 32) (a b : List (BitVec 8)) : crcS s (a ++ b) = crcS (crcS s a) b := by
  induction a generalizing s with
  | nil => rfl
  | cons x a ih => exact ih _
theorem crcS_snoc (s : BitVec 32) (a : List (BitVec 8)) (x : BitVec 8) : crcS s (a ++ [x]) = nxs 8 (crcS s a ^^^ byte32 x) := by rw [crcS_append]; rfl
theorem crcS_xor (s t : BitVec 32) (b : List (BitVec 8)) : crcS (s ^^^ t) b = crcS s b ^^^ nxs (8 * b.length) t := by
  induction b generalizing s t with
  | nil => rfl
  | cons x b ih =>
    rw [crcS, crcS, show (s ^^^ t) ^^^ byte32 x = (s ^^^ byte32 x) ^^^ t by rw [BitVec.xor_assoc, BitVec.xor_comm t, BitVec.xor_assoc], nxs_lin, ih, List.length_cons, show 8 * (b.length + 1) = 8 + 8 * b.length by omega, nxs_add]
def crc (c : BitVec 32) (b : List (BitVec 8)) : BitVec 32 := ~~~ crcS (~~~ c) b
theorem crc_append (c : BitVec 32) (a b : List (BitVec 8)) : crc c (a ++ b) = crc (crc c a) b := by
  unfold crc; rw [crcS_append, BitVec.not_not]
theorem crc_nil (c : BitVec 32) : crc c [] = c := by unfold crc crcS; rw [BitVec.not_not]
theorem not_xor (a b : BitVec 32) : ~~~(a ^^^ b) = ~~~a ^^^ b := by
  apply BitVec.eq_of_getLsbD_eq; intro i hi
  simp only [BitVec.getLsbD_xor, BitVec.getLsbD_not, hi]
  cases a.getLsbD i <;> cases b.getLsbD i <;> rfl
theorem crc_join (c : BitVec 32) (b : List (BitVec 8)) : crc c b = nxs (8 * b.length) c ^^^ crc 0#32 b := by
  unfold crc
  have e : ~~~ c = ~~~ 0#32 ^^^ c := by rw [← not_xor, BitVec.zero_xor]
  rw [e, crcS_xor, not_xor, BitVec.xor_comm]

/-- The product, bit by bit of p from the highest on. -/
def tm : Nat → BitVec 32 → BitVec 32 → BitVec 32
  | 0, _, _ => 0#32
  | k + 1, p, q => (if p.getLsbD 31 then q else 0#32) ^^^ tm k (p <<< 1) (nx q)
theorem tm_zero (k : Nat) (q : BitVec 32) : tm k 0#32 q = 0#32 := by
  induction k generalizing q with
  | zero => rfl
  | succ k ih => rw [tm, show (0#32 : BitVec 32) <<< 1 = 0#32 from rfl, ih]; simp
theorem tm_nx (k : Nat) (p q : BitVec 32) : tm k p (nx q) = nx (tm k p q) := by
  induction k generalizing p q with
  | zero => exact nx_lin.zero.symm
  | succ k ih =>
    rw [tm, tm, nx_lin, ih]
    cases p.getLsbD 31
    · simp [nx_lin.zero]
    · simp
theorem tm_nxs (j k : Nat) (p q : BitVec 32) : tm k p (nxs j q) = nxs j (tm k p q) := by
  induction j generalizing q with
  | zero => rfl
  | succ j ih => rw [nxs, ih, tm_nx, nxs]
theorem tm_lin (k : Nat) (q : BitVec 32) : Lin fun p => tm k p q := by
  induction k generalizing q with
  | zero => intro p p'; exact (BitVec.xor_self (x := 0#32)).symm
  | succ k ih =>
    intro p p'
    show tm (k + 1) (p ^^^ p') q = tm (k + 1) p q ^^^ tm (k + 1) p' q
    have h : tm k ((p <<< 1) ^^^ (p' <<< 1)) (nx q) = tm k (p <<< 1) (nx q) ^^^ tm k (p' <<< 1) (nx q) := ih (nx q) (p <<< 1) (p' <<< 1)
    rw [tm, tm, tm, BitVec.shiftLeft_xor_distrib, h, BitVec.getLsbD_xor]
    have e : (if (p.getLsbD 31 ^^ p'.getLsbD 31) = true then q else 0#32) = (if p.getLsbD 31 = true then q else 0#32) ^^^ (if p'.getLsbD 31 = true then q else 0#32) := by
      cases p.getLsbD 31 <;> cases p'.getLsbD 31 <;> simp
    rw [e, x4]
theorem tm_bits : ∀ i, i < 32 → tm 32 (bit32 i) onep = bit32 i := by decide +kernel
theorem tm_one (p : BitVec 32) : tm 32 p onep = p :=
  lin_ext (f := fun p => tm 32 p onep) (g := fun p => p) (tm_lin 32 onep) (fun _ _ => rfl) tm_bits p
/-- Times x^j. -/
theorem tm_pow (p : BitVec 32) (j : Nat) : tm 32 p (nxs j onep) = nxs j p := by rw [tm_nxs, tm_one]
theorem tm_pows (j k : Nat) : tm 32 (nxs j onep) (nxs k onep) = nxs (j + k) onep := by rw [tm_pow, nxs_add]
theorem nx_one : nxs 8 onep = 0x00800000#32 := by decide
end Go.Proofs.YtpfckamobjcdhabDoor
