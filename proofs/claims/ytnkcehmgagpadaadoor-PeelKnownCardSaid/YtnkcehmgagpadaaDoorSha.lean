/- SHA-256 as plain Lean functions on lists of bytes (typed from FIPS 180-4), and small laws of them. No condition. -/
import Derived.Test.YtnkcehmgagpadaaDoorBv
namespace Go.Proofs.YtnkcehmgagpadaaDoor

def u32v (x : BitVec 32) : Value := .int .u32 (N x)
def u8v (x : BitVec 8) : Value := .int .u8 (B x)

def at8 (l : List (BitVec 8)) (i : Nat) : BitVec 8 := l.getD i 0
def at32 (l : List (BitVec 32)) (i : Nat) : BitVec 32 := l.getD i 0
theorem at8_of (l : List (BitVec 8)) (i : Nat) (h : i < l.length) : (l.map u8v)[i]? = some (.int .u8 (B (at8 l i))) := by
  rw [List.getElem?_map, List.getElem?_eq_getElem h]
  simp [at8, u8v, List.getD_eq_getElem?_getD, List.getElem?_eq_getElem h]
theorem at32_of (l : List (BitVec 32)) (i : Nat) (h : i < l.length) : (l.map u32v)[i]? = some (.int .u32 (N (at32 l i))) := by
  rw [List.getElem?_map, List.getElem?_eq_getElem h]
  simp [at32, u32v, List.getD_eq_getElem?_getD, List.getElem?_eq_getElem h]
def word4 (a b c d : BitVec 8) : BitVec 32 := (w8 a <<< 24) ||| (w8 b <<< 16) ||| (w8 c <<< 8) ||| w8 d
def low (x : BitVec 32) : BitVec 32 := rotr x 7 ^^^ rotr x 18 ^^^ (x >>> 3)
def high (x : BitVec 32) : BitVec 32 := rotr x 17 ^^^ rotr x 19 ^^^ (x >>> 10)
def wordAt (blk : List (BitVec 8)) (k : Nat) : BitVec 32 :=
  word4 (at8 blk (4 * k)) (at8 blk (4 * k + 1)) (at8 blk (4 * k + 2)) (at8 blk (4 * k + 3))
def nextWord (l : List (BitVec 32)) : BitVec 32 :=
  at32 l (l.length - 16) + low (at32 l (l.length - 15)) + at32 l (l.length - 7) + high (at32 l (l.length - 2))
/-- The first k words of a block's schedule. -/
def words (blk : List (BitVec 8)) : Nat → List (BitVec 32)
  | 0 => []
  | k + 1 => words blk k ++ [if k < 16 then wordAt blk k else nextWord (words blk k)]
theorem words_length (blk : List (BitVec 8)) (k : Nat) : (words blk k).length = k := by
  induction k with
  | zero => rfl
  | succ k ih => simp [words, ih]
/-- A row of words of which the first ones are known, the others zero. -/
def zrow (l : List (BitVec 32)) : List Value := (l ++ List.replicate (64 - l.length) 0).map u32v
theorem zrow_nil : zrow [] = List.replicate 64 (.int .u32 0) := by simp [zrow, u32v, N]
theorem zrow_get (l : List (BitVec 32)) (j : Nat) (h : j < l.length) : (zrow l)[j]? = some (.int .u32 (N (at32 l j))) := by
  unfold zrow
  rw [List.getElem?_map, List.getElem?_append_left h, List.getElem?_eq_getElem h]
  simp [u32v, at32, List.getD_eq_getElem?_getD, List.getElem?_eq_getElem h]
theorem zrow_get0 (l : List (BitVec 32)) (j : Nat) (h : l.length ≤ j) (h' : j < 64) : (zrow l)[j]? = some (.int .u32 0) := by
  unfold zrow
  rw [List.getElem?_map, List.getElem?_append_right h, List.getElem?_replicate]
  rw [if_pos (by omega)]; simp [u32v, N]
theorem zrow_set (l : List (BitVec 32)) (x : BitVec 32) (h : l.length < 64) : (zrow l).set l.length (u32v x) = zrow (l ++ [x]) := by
  unfold zrow
  apply List.ext_getElem?
  intro j
  obtain ⟨m, hm⟩ : ∃ m, 64 - l.length = m + 1 := ⟨64 - l.length - 1, by omega⟩
  have hm' : 64 - (l ++ [x]).length = m := by simp; omega
  rw [hm, hm', List.replicate_succ, List.getElem?_set]
  by_cases hj : l.length = j
  · subst hj; simp
  · rw [if_neg hj]
    simp only [List.getElem?_map, List.append_assoc, List.singleton_append]
    rcases Nat.lt_or_ge j l.length with h1 | h1
    · rw [List.getElem?_append_left h1, List.getElem?_append_left h1]
    · rw [List.getElem?_append_right h1, List.getElem?_append_right h1]
      obtain ⟨i, hi⟩ : ∃ i, j - l.length = i + 1 := ⟨j - l.length - 1, by omega⟩
      rw [hi]; simp

theorem zrow_put (l : List (BitVec 32)) (x : BitVec 32) (k : Nat) (hk : l.length = k) (h : k < 64) : (zrow l).set k (u32v x) = zrow (l ++ [x]) := by
  subst hk; exact zrow_set l x h
theorem zrow_full (l : List (BitVec 32)) (h : l.length = 64) : zrow l = l.map u32v := by simp [zrow, h]
theorem words_lo (blk : List (BitVec 8)) (k : Nat) (h : k < 16) : words blk (k + 1) = words blk k ++ [wordAt blk k] := by rw [words, if_pos h]
theorem words_hi (blk : List (BitVec 8)) (k : Nat) (h : 16 ≤ k) : words blk (k + 1) = words blk k ++
    [at32 (words blk k) (k - 16) + low (at32 (words blk k) (k - 15)) + at32 (words blk k) (k - 7) + high (at32 (words blk k) (k - 2))] := by
  rw [words, if_neg (by omega), nextWord, words_length]
theorem u32v_one (l : List (BitVec 32)) : (l.map u32v).toArray.all (·.oneCell') = true :=
  Array.all_eq_true_iff_forall_mem.2 (fun v hv => by
    have : v ∈ l.map u32v := by simpa using hv
    obtain ⟨x, _, rfl⟩ := List.mem_map.1 this
    rfl)
theorem u8v_one (l : List (BitVec 8)) : (l.map u8v).toArray.all (·.oneCell') = true :=
  Array.all_eq_true_iff_forall_mem.2 (fun v hv => by
    have : v ∈ l.map u8v := by simpa using hv
    obtain ⟨x, _, rfl⟩ := List.mem_map.1 this
    rfl)
/-- A row of n bytes of which the first ones are known, the others zero. -/
def brow (n : Nat) (l : List (BitVec 8)) : List Value := (l ++ List.replicate (n - l.length) 0).map u8v
theorem brow_nil (n : Nat) : brow n [] = List.replicate n (.int .u8 0) := by simp [brow, u8v, B]
theorem brow_length (n : Nat) (l : List (BitVec 8)) (h : l.length ≤ n) : (brow n l).length = n := by simp [brow]; omega
theorem brow_full (n : Nat) (l : List (BitVec 8)) (h : l.length = n) : brow n l = l.map u8v := by simp [brow, h]
theorem brow_get0 (n : Nat) (l : List (BitVec 8)) (j : Nat) (h : l.length ≤ j) (h' : j < n) : (brow n l)[j]? = some (.int .u8 0) := by
  unfold brow
  rw [List.getElem?_map, List.getElem?_append_right h, List.getElem?_replicate]
  rw [if_pos (by omega)]; simp [u8v, B]
theorem brow_set (n : Nat) (l : List (BitVec 8)) (x : BitVec 8) (h : l.length < n) : (brow n l).set l.length (u8v x) = brow n (l ++ [x]) := by
  unfold brow
  apply List.ext_getElem?
  intro j
  obtain ⟨m, hm⟩ : ∃ m, n - l.length = m + 1 := ⟨n - l.length - 1, by omega⟩
  have hm' : n - (l ++ [x]).length = m := by simp; omega
  rw [hm, hm', List.replicate_succ, List.getElem?_set]
  by_cases hj : l.length = j
  · subst hj; simp
  · rw [if_neg hj]
    simp only [List.getElem?_map, List.append_assoc, List.singleton_append]
    rcases Nat.lt_or_ge j l.length with h1 | h1
    · rw [List.getElem?_append_left h1, List.getElem?_append_left h1]
    · rw [List.getElem?_append_right h1, List.getElem?_append_right h1]
      obtain ⟨i, hi⟩ : ∃ i, j - l.length = i + 1 := ⟨j - l.length - 1, by omega⟩
      rw [hi]; simp
theorem brow_put (n : Nat) (l : List (BitVec 8)) (x : BitVec 8) (k : Nat) (hk : l.length = k) (h : k < n) : (brow n l).set k (u8v x) = brow n (l ++ [x]) := by
  subst hk; exact brow_set n l x h
/-- The eight words of a state. -/
structure St where
  a : BitVec 32
  b : BitVec 32
  c : BitVec 32
  d : BitVec 32
  e : BitVec 32
  f : BitVec 32
  g : BitVec 32
  h : BitVec 32
def St.list (s : St) : List (BitVec 32) := [s.a, s.b, s.c, s.d, s.e, s.f, s.g, s.h]
def St.vals (s : St) : List Value := s.list.map u32v

def turn3 (x : BitVec 32) (i j k : Nat) : BitVec 32 := rotr x i ^^^ rotr x j ^^^ rotr x k
def roundT (s : St) (k w : BitVec 32) : BitVec 32 := s.h + turn3 s.e 6 11 25 + ((s.e &&& s.f) ^^^ (~~~s.e &&& s.g)) + k + w
def roundU (s : St) : BitVec 32 := turn3 s.a 2 13 22 + ((s.a &&& s.b) ^^^ (s.a &&& s.c) ^^^ (s.b &&& s.c))
def St.round (s : St) (k w : BitVec 32) : St := ⟨roundT s k w + roundU s, s.a, s.b, s.c, s.d + roundT s k w, s.e, s.f, s.g⟩
def St.plus (s t : St) : St := ⟨s.a + t.a, s.b + t.b, s.c + t.c, s.d + t.d, s.e + t.e, s.f + t.f, s.g + t.g, s.h + t.h⟩

def keyNats : List Nat := [
  1116352408, 1899447441, 3049323471, 3921009573, 961987163, 1508970993, 2453635748, 2870763221,
  3624381080, 310598401, 607225278, 1426881987, 1925078388, 2162078206, 2614888103, 3248222580,
  3835390401, 4022224774, 264347078, 604807628, 770255983, 1249150122, 1555081692, 1996064986,
  2554220882, 2821834349, 2952996808, 3210313671, 3336571891, 3584528711, 113926993, 338241895,
  666307205, 773529912, 1294757372, 1396182291, 1695183700, 1986661051, 2177026350, 2456956037,
  2730485921, 2820302411, 3259730800, 3345764771, 3516065817, 3600352804, 4094571909, 275423344,
  430227734, 506948616, 659060556, 883997877, 958139571, 1322822218, 1537002063, 1747873779,
  1955562222, 2024104815, 2227730452, 2361852424, 2428436474, 2756734187, 3204031479, 3329325298]
def keys : List (BitVec 32) := keyNats.map (BitVec.ofNat 32)
theorem keys_length : keys.length = 64 := by simp [keys, keyNats]
def start : St := ⟨1779033703, 3144134277, 1013904242, 2773480762, 1359893119, 2600822924, 528734635, 1541459225⟩

/-- The state behind n rounds. -/
def rounds (blk : List (BitVec 8)) (s : St) : Nat → St
  | 0 => s
  | n + 1 => (rounds blk s n).round (at32 keys n) (at32 (words blk 64) n)
def mix (s : St) (blk : List (BitVec 8)) : St := s.plus (rounds blk s 64)
/-- A word's four bytes, the highest first; a state's thirty-two. -/
def fourOf (v : BitVec 32) : List (BitVec 8) := [b32 (v >>> 24), b32 (v >>> 16), b32 (v >>> 8), b32 v]
def tellTo (l : List (BitVec 32)) : Nat → List (BitVec 8)
  | 0 => []
  | n + 1 => tellTo l n ++ fourOf (at32 l n)
theorem tellTo_length (l : List (BitVec 32)) (n : Nat) : (tellTo l n).length = 4 * n := by
  induction n with
  | zero => rfl
  | succ n ih => simp [tellTo, ih, fourOf]; omega
def tell (s : St) : List (BitVec 8) := tellTo s.list 8
theorem tell_length (s : St) : (tell s).length = 32 := tellTo_length _ _
theorem rounds_succ (blk : List (BitVec 8)) (s : St) (n : Nat) : rounds blk s (n + 1) = (rounds blk s n).round (at32 keys n) (at32 (words blk 64) n) := rfl
end Go.Proofs.YtnkcehmgagpadaaDoor
