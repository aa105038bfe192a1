/- Plain laws: Go's arithmetic on uint32 and uint8 is that of bit vectors. No condition. -/
import Derived.WalkKit
import Derived.Deep.Draws
import Derived.Deep.MidRow
import Derived.Laws.CopyOwn
import Derived.Lib.Hide
import Derived.Deep.RegionHeld3
import Derived.Test.YtlidoikpfodpeaaDoorProg
import Derived.Stop.BytesEq
import Derived.Sort.Grow
import Derived.Laws.Rows
import Derived.Tactics
import Derived.KernelRfl
import Derived.Deep.DeepCutAuto
import Derived.Deep.Cut
import Derived.Deep.QuietTactic
import Derived.IntWalk
import Derived.LoopIn
import Derived.LoopNIn
import Derived.OwnWalk
import Derived.OwnWalkIn
import Derived.Laws.AppendOwn
import Derived.Laws.OwnMore
import Derived.Great.BuildSlice
import Derived.Lib.SlicesCompact
import Derived.Sort.LotA
import Derived.Shelf.SlSortCmp.Insertion
import Derived.Below
import Derived.Laws.AppendOwnNone
import Derived.Lib.LazyBuf
import Derived.StillTailTactics
import Derived.Laws.StructEq
import Derived.Laws.IdiomCopy
import Derived.Shelf.SlGeneric
import Derived.Shelf.SlSortCmp.NoneTotal
import Derived.Shelf.SlicesE.Clone
import Derived.Shelf.SlicesQ.Equal
import Derived.Shelf.SlLaysE0
import Derived.Shelf.SlLaysQ
namespace Go.Proofs.YtlidoikpfodpeaaDoor

/-- A word, a byte as Go's integers. -/
def N (x : BitVec 32) : Int := (x.toNat : Int)
def B (x : BitVec 8) : Int := (x.toNat : Int)

theorem N_nonneg (x : BitVec 32) : 0 ≤ N x := by unfold N; omega
theorem N_lt (x : BitVec 32) : N x < 4294967296 := by unfold N; have := x.isLt; omega
theorem B_nonneg (x : BitVec 8) : 0 ≤ B x := by unfold B; omega
theorem B_lt (x : BitVec 8) : B x < 256 := by unfold B; have := x.isLt; omega
theorem N_inj {x y : BitVec 32} (h : N x = N y) : x = y := by unfold N at h; exact BitVec.eq_of_toNat_eq (by omega)
theorem B_inj {x y : BitVec 8} (h : B x = B y) : x = y := by unfold B at h; exact BitVec.eq_of_toNat_eq (by omega)
theorem B_ofNat (n : Nat) (h : n < 256) : (n : Int) = B (BitVec.ofNat 8 n) := by unfold B; simp; omega
theorem N_ofNat (n : Nat) (h : n < 4294967296) : (n : Int) = N (BitVec.ofNat 32 n) := by unfold N; simp; omega

theorem ofInt_N (x : BitVec 32) : BitVec.ofInt 32 (N x) = x := by unfold N; rw [BitVec.ofInt_natCast, BitVec.ofNat_toNat, BitVec.setWidth_eq]
theorem ofInt_B (x : BitVec 8) : BitVec.ofInt 8 (B x) = x := by unfold B; rw [BitVec.ofInt_natCast, BitVec.ofNat_toNat, BitVec.setWidth_eq]
theorem wrap_N (x : BitVec 32) : IntKind.u32.wrap (x.toNat : Int) = N x := by rw [IntKind.wrap_u32']; unfold N; have := x.isLt; omega
theorem wrap_B (x : BitVec 8) : IntKind.u8.wrap (x.toNat : Int) = B x := by rw [IntKind.wrap_u8']; unfold B; have := x.isLt; omega

theorem N_and (x y : BitVec 32) : bits .and .u32 (N x) (N y) = N (x &&& y) := by
  show IntKind.u32.wrap ((BitVec.ofInt 32 (N x) &&& BitVec.ofInt 32 (N y)).toNat : Int) = _
  rw [ofInt_N, ofInt_N, wrap_N]
theorem N_or (x y : BitVec 32) : bits .or .u32 (N x) (N y) = N (x ||| y) := by
  show IntKind.u32.wrap ((BitVec.ofInt 32 (N x) ||| BitVec.ofInt 32 (N y)).toNat : Int) = _
  rw [ofInt_N, ofInt_N, wrap_N]
theorem N_xor (x y : BitVec 32) : bits .xor .u32 (N x) (N y) = N (x ^^^ y) := by
  show IntKind.u32.wrap ((BitVec.ofInt 32 (N x) ^^^ BitVec.ofInt 32 (N y)).toNat : Int) = _
  rw [ofInt_N, ofInt_N, wrap_N]
theorem N_not (x : BitVec 32) : bits .xor .u32 4294967295 (N x) = N (~~~x) := by
  have : (4294967295 : Int) = N (BitVec.allOnes 32) := rfl
  rw [this, N_xor, BitVec.allOnes_xor]
theorem N_not' (x : BitVec 32) : bits .xor .u32 IntKind.u32.max (N x) = N (~~~x) := N_not x
theorem u32_signed : IntKind.u32.signed = false := rfl
theorem u8_signed : IntKind.u8.signed = false := rfl
theorem N_add (x y : BitVec 32) : IntKind.u32.wrap (N x + N y) = N (x + y) := by
  rw [IntKind.wrap_u32']; unfold N; rw [BitVec.toNat_add]; omega
theorem N_shl (x : BitVec 32) (k : Nat) : IntKind.u32.wrap (N x * 2 ^ k) = N (x <<< k) := by
  rw [IntKind.wrap_u32']; unfold N; rw [BitVec.toNat_shiftLeft, Nat.shiftLeft_eq]; simp
theorem N_shr (x : BitVec 32) (k : Nat) : N x / 2 ^ k = N (x >>> k) := by
  unfold N; rw [BitVec.toNat_ushiftRight, Nat.shiftRight_eq_div_pow]; simp
theorem B_and (x y : BitVec 8) : bits .and .u8 (B x) (B y) = B (x &&& y) := by
  show IntKind.u8.wrap ((BitVec.ofInt 8 (B x) &&& BitVec.ofInt 8 (B y)).toNat : Int) = _
  rw [ofInt_B, ofInt_B, wrap_B]
theorem B_or (x y : BitVec 8) : bits .or .u8 (B x) (B y) = B (x ||| y) := by
  show IntKind.u8.wrap ((BitVec.ofInt 8 (B x) ||| BitVec.ofInt 8 (B y)).toNat : Int) = _
  rw [ofInt_B, ofInt_B, wrap_B]
theorem B_xor (x y : BitVec 8) : bits .xor .u8 (B x) (B y) = B (x ^^^ y) := by
  show IntKind.u8.wrap ((BitVec.ofInt 8 (B x) ^^^ BitVec.ofInt 8 (B y)).toNat : Int) = _
  rw [ofInt_B, ofInt_B, wrap_B]
theorem B_add (x y : BitVec 8) : IntKind.u8.wrap (B x + B y) = B (x + y) := by
  rw [IntKind.wrap_u8']; unfold B; rw [BitVec.toNat_add]; omega
theorem B_shl (x : BitVec 8) (k : Nat) : IntKind.u8.wrap (B x * 2 ^ k) = B (x <<< k) := by
  rw [IntKind.wrap_u8']; unfold B; rw [BitVec.toNat_shiftLeft, Nat.shiftLeft_eq]; simp
theorem B_shr (x : BitVec 8) (k : Nat) : B x / 2 ^ k = B (x >>> k) := by
  unfold B; rw [BitVec.toNat_ushiftRight, Nat.shiftRight_eq_div_pow]; simp
/-- A byte as a word; a word's low byte. -/
def w8 (x : BitVec 8) : BitVec 32 := x.setWidth 32
def b32 (x : BitVec 32) : BitVec 8 := x.setWidth 8
theorem N_of_B (x : BitVec 8) : IntKind.u32.wrap (B x) = N (w8 x) := by
  rw [IntKind.wrap_u32']; unfold B N w8; rw [BitVec.toNat_setWidth]; simp
theorem N_w8 (x : BitVec 8) : B x = N (w8 x) := by
  unfold B N w8; rw [BitVec.toNat_setWidth]; have := x.isLt; omega
theorem B_of_N (x : BitVec 32) : IntKind.u8.wrap (N x) = B (b32 x) := by
  rw [IntKind.wrap_u8']; unfold B N b32; rw [BitVec.toNat_setWidth]; simp

theorem N_shl24 (x : BitVec 32) : IntKind.u32.wrap (N x * 16777216) = N (x <<< 24) := N_shl x 24
theorem N_shl16 (x : BitVec 32) : IntKind.u32.wrap (N x * 65536) = N (x <<< 16) := N_shl x 16
theorem N_shl8 (x : BitVec 32) : IntKind.u32.wrap (N x * 256) = N (x <<< 8) := N_shl x 8
theorem N_shr3 (x : BitVec 32) : N x / 8 = N (x >>> 3) := N_shr x 3
theorem N_shr10 (x : BitVec 32) : N x / 1024 = N (x >>> 10) := N_shr x 10
theorem N_shr8 (x : BitVec 32) : N x / 256 = N (x >>> 8) := N_shr x 8
theorem N_shr16 (x : BitVec 32) : N x / 65536 = N (x >>> 16) := N_shr x 16
theorem N_shr24 (x : BitVec 32) : N x / 16777216 = N (x >>> 24) := N_shr x 24
theorem N_sr (x : BitVec 32) (yk : IntKind) (k : Nat) (hk : k ≤ 32) (y : Int) (hy : y = (k : Int)) : Op.shift .shr .u32 (N x) yk y = pure (.int .u32 (N (x >>> k))) := by
  subst hy
  rw [shift_shr_any _ _ _ _ (by omega)]
  have : min ((k : Int).toNat) IntKind.u32.bits = k := by show min _ 32 = k; omega
  rw [this, N_shr]
theorem N_sr3 (x : BitVec 32) (yk : IntKind) : Op.shift .shr .u32 (N x) yk 3 = pure (.int .u32 (N (x >>> 3))) := N_sr x yk 3 (by omega) _ rfl
theorem N_sr10 (x : BitVec 32) (yk : IntKind) : Op.shift .shr .u32 (N x) yk 10 = pure (.int .u32 (N (x >>> 10))) := N_sr x yk 10 (by omega) _ rfl
theorem N_sr8 (x : BitVec 32) (yk : IntKind) : Op.shift .shr .u32 (N x) yk 8 = pure (.int .u32 (N (x >>> 8))) := N_sr x yk 8 (by omega) _ rfl
theorem N_sr16 (x : BitVec 32) (yk : IntKind) : Op.shift .shr .u32 (N x) yk 16 = pure (.int .u32 (N (x >>> 16))) := N_sr x yk 16 (by omega) _ rfl
theorem N_sr24 (x : BitVec 32) (yk : IntKind) : Op.shift .shr .u32 (N x) yk 24 = pure (.int .u32 (N (x >>> 24))) := N_sr x yk 24 (by omega) _ rfl
/-- A word turned to the right. -/
def rotr (x : BitVec 32) (k : Nat) : BitVec 32 := (x >>> k) ||| (x <<< (32 - k))
theorem rotr_of (x : BitVec 32) (k : Nat) (u v : Int) (hu : u = 2 ^ (32 - k)) (hv : v = 2 ^ k) :
    bits .or .u32 (IntKind.u32.wrap (N x * u)) (N x / v) = N (rotr x k) := by
  subst hu hv
  rw [N_shl, N_shr, N_or, BitVec.or_comm]; rfl
theorem rotr_of' (x : BitVec 32) (k : Nat) (u v : Int) (hu : u = 2 ^ (32 - k)) (hv : v = 2 ^ k) :
    bits .or .u32 (N x / v) (IntKind.u32.wrap (N x * u)) = N (rotr x k) := by
  subst hu hv
  rw [N_shl, N_shr, N_or]; rfl
end Go.Proofs.YtlidoikpfodpeaaDoor
/- SHA-256 as plain Lean functions on lists of bytes (typed from FIPS 180-4), and small laws of them. No condition. -/
namespace Go.Proofs.YtlidoikpfodpeaaDoor

def u32v (x : BitVec 32) : Value := .int .u32 (N x)
def u8v (x : BitVec 8) : Value := .int .u8 (B x)

def at8 (l : List (BitVec 8)) (i : Nat) : BitVec 8 := l.getD i 0
def at32 (l : List (BitVec 32)) (i : Nat) : BitVec 32 := l.getD i 0
theorem at8_of (l : List (BitVec 8)) (i : Nat) (h : i < l.length) : (l.map u8v)[i]? = some (.int .u8 (B (at8 l i))) := by
  rw [List.getElem?_map, List.getElem?_eq_getElem h]
  simp [at8, u8v, List.getD_eq_getElem?_getD, List.getElem?_eq_getElem h]
theorem at32_of (l : List (BitVec 32)) (i : Nat) (h : i < l.length) : (l.map u32v)[i]? = some (.int .u32 (N (at32 l i))) := by
  rw [List.getElem?_map, List.getElem?_eq_getElem h]
  simp [at32, u32v, List.getD_eq_getElem?_getD, List.getElem?_eq_getElem h]
def word4 (a b c d : BitVec 8) : BitVec 32 := (w8 a <<< 24) ||| (w8 b <<< 16) ||| (w8 c <<< 8) ||| w8 d
def low (x : BitVec 32) : BitVec 32 := rotr x 7 ^^^ rotr x 18 ^^^ (x >>> 3)
def high (x : BitVec 32) : BitVec 32 := rotr x 17 ^^^ rotr x 19 ^^^ (x >>> 10)
def wordAt (blk : List (BitVec 8)) (k : Nat) : BitVec 32 :=
  word4 (at8 blk (4 * k)) (at8 blk (4 * k + 1)) (at8 blk (4 * k + 2)) (at8 blk (4 * k + 3))
def nextWord (l : List (BitVec 32)) : BitVec 32 :=
  at32 l (l.length - 16) + low (at32 l (l.length - 15)) + at32 l (l.length - 7) + high (at32 l (l.length - 2))
/-- The first k words of a block's schedule. -/
def words (blk : List (BitVec 8)) : Nat → List (BitVec 32)
  | 0 => []
  | k + 1 => words blk k ++ [if k < 16 then wordAt blk k else nextWord (words blk k)]
theorem words_length (blk : List (BitVec 8)) (k : Nat) : (words blk k).length = k := by
  induction k with
  | zero => rfl
  | succ k ih => simp [words, ih]
theorem words_prefix (blk : List (BitVec 8)) (k n : Nat) : words blk k <+: words blk (k + n) := by
  induction n with
  | zero => exact List.prefix_refl _
  | succ n ih => exact ih.trans (by rw [show k + (n + 1) = (k + n) + 1 from rfl, words]; exact List.prefix_append _ _)
theorem words_at (blk : List (BitVec 8)) (j k n : Nat) (hj : j < k) (hn : k ≤ n) : at32 (words blk n) j = at32 (words blk k) j := by
  unfold at32
  obtain ⟨d, rfl⟩ := Nat.le.dest hn
  obtain ⟨t, ht⟩ := words_prefix blk k d
  rw [← ht, List.getD_eq_getElem?_getD, List.getD_eq_getElem?_getD, List.getElem?_append_left (by rw [words_length]; exact hj)]

/-- A row of words of which the first ones are known, the others zero. -/
def zrow (l : List (BitVec 32)) : List Value := (l ++ List.replicate (64 - l.length) 0).map u32v
theorem zrow_nil : zrow [] = List.replicate 64 (.int .u32 0) := by simp [zrow, u32v, N]
theorem zrow_length (l : List (BitVec 32)) (h : l.length ≤ 64) : (zrow l).length = 64 := by simp [zrow]; omega
theorem zrow_get (l : List (BitVec 32)) (j : Nat) (h : j < l.length) : (zrow l)[j]? = some (.int .u32 (N (at32 l j))) := by
  unfold zrow
  rw [List.getElem?_map, List.getElem?_append_left h, List.getElem?_eq_getElem h]
  simp [u32v, at32, List.getD_eq_getElem?_getD, List.getElem?_eq_getElem h]
theorem zrow_get0 (l : List (BitVec 32)) (j : Nat) (h : l.length ≤ j) (h' : j < 64) : (zrow l)[j]? = some (.int .u32 0) := by
  unfold zrow
  rw [List.getElem?_map, List.getElem?_append_right h, List.getElem?_replicate]
  rw [if_pos (by omega)]; simp [u32v, N]
theorem zrow_set (l : List (BitVec 32)) (x : BitVec 32) (h : l.length < 64) : (zrow l).set l.length (u32v x) = zrow (l ++ [x]) := by
  unfold zrow
  apply List.ext_getElem?
  intro j
  obtain ⟨m, hm⟩ : ∃ m, 64 - l.length = m + 1 := ⟨64 - l.length - 1, by omega⟩
  have hm' : 64 - (l ++ [x]).length = m := by simp; omega
  rw [hm, hm', List.replicate_succ, List.getElem?_set]
  by_cases hj : l.length = j
  · subst hj; simp
  · rw [if_neg hj]
    simp only [List.getElem?_map, List.append_assoc, List.singleton_append]
    rcases Nat.lt_or_ge j l.length with h1 | h1
    · rw [List.getElem?_append_left h1, List.getElem?_append_left h1]
    · rw [List.getElem?_append_right h1, List.getElem?_append_right h1]
      obtain ⟨i, hi⟩ : ∃ i, j - l.length = i + 1 := ⟨j - l.length - 1, by omega⟩
      rw [hi]; simp

theorem zrow_put (l : List (BitVec 32)) (x : BitVec 32) (k : Nat) (hk : l.length = k) (h : k < 64) : (zrow l).set k (u32v x) = zrow (l ++ [x]) := by
  subst hk; exact zrow_set l x h
theorem zrow_full (l : List (BitVec 32)) (h : l.length = 64) : zrow l = l.map u32v := by simp [zrow, h]
theorem words_lo (blk : List (BitVec 8)) (k : Nat) (h : k < 16) : words blk (k + 1) = words blk k ++ [wordAt blk k] := by rw [words, if_pos h]
theorem words_hi (blk : List (BitVec 8)) (k : Nat) (h : 16 ≤ k) : words blk (k + 1) = words blk k ++
    [at32 (words blk k) (k - 16) + low (at32 (words blk k) (k - 15)) + at32 (words blk k) (k - 7) + high (at32 (words blk k) (k - 2))] := by
  rw [words, if_neg (by omega), nextWord, words_length]
theorem u32v_one (l : List (BitVec 32)) : (l.map u32v).toArray.all (·.oneCell') = true :=
  Array.all_eq_true_iff_forall_mem.2 (fun v hv => by
    have : v ∈ l.map u32v := by simpa using hv
    obtain ⟨x, _, rfl⟩ := List.mem_map.1 this
    rfl)
theorem u8v_one (l : List (BitVec 8)) : (l.map u8v).toArray.all (·.oneCell') = true :=
  Array.all_eq_true_iff_forall_mem.2 (fun v hv => by
    have : v ∈ l.map u8v := by simpa using hv
    obtain ⟨x, _, rfl⟩ := List.mem_map.1 this
    rfl)
/-- A row of n bytes of which the first ones are known, the others zero. -/
def brow (n : Nat) (l : List (BitVec 8)) : List Value := (l ++ List.replicate (n - l.length) 0).map u8v
theorem brow_nil (n : Nat) : brow n [] = List.replicate n (.int .u8 0) := by simp [brow, u8v, B]
theorem brow_length (n : Nat) (l : List (BitVec 8)) (h : l.length ≤ n) : (brow n l).length = n := by simp [brow]; omega
theorem brow_full (n : Nat) (l : List (BitVec 8)) (h : l.length = n) : brow n l = l.map u8v := by simp [brow, h]
theorem brow_get (n : Nat) (l : List (BitVec 8)) (j : Nat) (h : j < l.length) : (brow n l)[j]? = some (.int .u8 (B (at8 l j))) := by
  unfold brow
  rw [List.getElem?_map, List.getElem?_append_left h, List.getElem?_eq_getElem h]
  simp [u8v, at8, List.getD_eq_getElem?_getD, List.getElem?_eq_getElem h]
theorem brow_get0 (n : Nat) (l : List (BitVec 8)) (j : Nat) (h : l.length ≤ j) (h' : j < n) : (brow n l)[j]? = some (.int .u8 0) := by
  unfold brow
  rw [List.getElem?_map, List.getElem?_append_right h, List.getElem?_replicate]
  rw [if_pos (by omega)]; simp [u8v, B]
theorem brow_set (n : Nat) (l : List (BitVec 8)) (x : BitVec 8) (h : l.length < n) : (brow n l).set l.length (u8v x) = brow n (l ++ [x]) := by
  unfold brow
  apply List.ext_getElem?
  intro j
  obtain ⟨m, hm⟩ : ∃ m, n - l.length = m + 1 := ⟨n - l.length - 1, by omega⟩
  have hm' : n - (l ++ [x]).length = m := by simp; omega
  rw [hm, hm', List.replicate_succ, List.getElem?_set]
  by_cases hj : l.length = j
  · subst hj; simp
  · rw [if_neg hj]
    simp only [List.getElem?_map, List.append_assoc, List.singleton_append]
    rcases Nat.lt_or_ge j l.length with h1 | h1
    · rw [List.getElem?_append_left h1, List.getElem?_append_left h1]
    · rw [List.getElem?_append_right h1, List.getElem?_append_right h1]
      obtain ⟨i, hi⟩ : ∃ i, j - l.length = i + 1 := ⟨j - l.length - 1, by omega⟩
      rw [hi]; simp
theorem brow_put (n : Nat) (l : List (BitVec 8)) (x : BitVec 8) (k : Nat) (hk : l.length = k) (h : k < n) : (brow n l).set k (u8v x) = brow n (l ++ [x]) := by
  subst hk; exact brow_set n l x h
/-- The eight words of a state. -/
structure St where
  a : BitVec 32
  b : BitVec 32
  c : BitVec 32
  d : BitVec 32
  e : BitVec 32
  f : BitVec 32
  g : BitVec 32
  h : BitVec 32
def St.list (s : St) : List (BitVec 32) := [s.a, s.b, s.c, s.d, s.e, s.f, s.g, s.h]
def St.vals (s : St) : List Value := s.list.map u32v

def turn3 (x : BitVec 32) (i j k : Nat) : BitVec 32 := rotr x i ^^^ rotr x j ^^^ rotr x k
def roundT (s : St) (k w : BitVec 32) : BitVec 32 := s.h + turn3 s.e 6 11 25 + ((s.e &&& s.f) ^^^ (~~~s.e &&& s.g)) + k + w
def roundU (s : St) : BitVec 32 := turn3 s.a 2 13 22 + ((s.a &&& s.b) ^^^ (s.a &&& s.c) ^^^ (s.b &&& s.c))
def St.round (s : St) (k w : BitVec 32) : St := ⟨roundT s k w + roundU s, s.a, s.b, s.c, s.d + roundT s k w, s.e, s.f, s.g⟩
def St.plus (s t : St) : St := ⟨s.a + t.a, s.b + t.b, s.c + t.c, s.d + t.d, s.e + t.e, s.f + t.f, s.g + t.g, s.h + t.h⟩

def keyNats : List Nat := [
  1116352408, 1899447441, 3049323471, 3921009573, 961987163, 1508970993, 2453635748, 2870763221,
  3624381080, 310598401, 607225278, 1426881987, 1925078388, 2162078206, 2614888103, 3248222580,
  3835390401, 4022224774, 264347078, 604807628, 770255983, 1249150122, 1555081692, 1996064986,
  2554220882, 2821834349, 2952996808, 3210313671, 3336571891, 3584528711, 113926993, 338241895,
  666307205, 773529912, 1294757372, 1396182291, 1695183700, 1986661051, 2177026350, 2456956037,
  2730485921, 2820302411, 3259730800, 3345764771, 3516065817, 3600352804, 4094571909, 275423344,
  430227734, 506948616, 659060556, 883997877, 958139571, 1322822218, 1537002063, 1747873779,
  1955562222, 2024104815, 2227730452, 2361852424, 2428436474, 2756734187, 3204031479, 3329325298]
def keys : List (BitVec 32) := keyNats.map (BitVec.ofNat 32)
theorem keys_length : keys.length = 64 := by simp [keys, keyNats]
def start : St := ⟨1779033703, 3144134277, 1013904242, 2773480762, 1359893119, 2600822924, 528734635, 1541459225⟩

/-- The state behind n rounds. -/
def rounds (blk : List (BitVec 8)) (s : St) : Nat → St
  | 0 => s
  | n + 1 => (rounds blk s n).round (at32 keys n) (at32 (words blk 64) n)
def mix (s : St) (blk : List (BitVec 8)) : St := s.plus (rounds blk s 64)
/-- A word's four bytes, the highest first; a state's thirty-two. -/
def fourOf (v : BitVec 32) : List (BitVec 8) := [b32 (v >>> 24), b32 (v >>> 16), b32 (v >>> 8), b32 v]
def tellTo (l : List (BitVec 32)) : Nat → List (BitVec 8)
  | 0 => []
  | n + 1 => tellTo l n ++ fourOf (at32 l n)
theorem tellTo_length (l : List (BitVec 32)) (n : Nat) : (tellTo l n).length = 4 * n := by
  induction n with
  | zero => rfl
  | succ n ih => simp [tellTo, ih, fourOf]; omega
def tell (s : St) : List (BitVec 8) := tellTo s.list 8
theorem tell_length (s : St) : (tell s).length = 32 := tellTo_length _ _
theorem rounds_succ (blk : List (BitVec 8)) (s : St) (n : Nat) : rounds blk s (n + 1) = (rounds blk s n).round (at32 keys n) (at32 (words blk 64) n) := rfl
end Go.Proofs.YtlidoikpfodpeaaDoor
/- A block of memory that is known whole, and what keeps it. No condition. -/
namespace Go.Proofs.YtlidoikpfodpeaaDoor
open Go.RowKit

theorem one32 (l : List Value) (h : ∀ v ∈ l, v.oneCell' = true) : l.toArray.all (·.oneCell') = true :=
  Array.all_eq_true_iff_forall_mem.2 (fun v hv => h v (by simpa using hv))

/-- Block g holds just these cells, all of them to be written. -/
def Has (w : World) (g : Nat) (t : TypeId) (l : List Value) : Prop := w.heap[g]? = some (.cells l.toArray t (0, 0))

namespace Has
variable {w w' : World} {g : Nat} {t : TypeId} {l : List Value}
theorem lt (h : Has w g t l) : g < w.heap.size := by
  unfold Has at h
  exact (Array.getElem?_eq_some_iff.1 h).1
theorem cell (h : Has w g t l) (i : Nat) : w.cell? ⟨g, i, none⟩ = l[i]? := by
  rw [cell_of_row w g i l.toArray t (0, 0) h]; simp
theorem cellv (h : Has w g t l) {i : Nat} {v : Value} (e : l[i]? = some v) : w.cell? ⟨g, i, none⟩ = some v := (h.cell i).trans e
theorem free (h : Has w g t l) (i : Nat) : w.frozen? ⟨g, i, none⟩ = false := by
  unfold Has at h; simp [World.frozen?, h]
theorem made (w : World) (t : TypeId) (cs : Array Value) : Has (w.alloc (.cells cs t)) w.heap.size t cs.toList := by
  have := heap_alloc_new w (.cells cs t); unfold Has; simpa using this
theorem made' (w : World) (t : TypeId) (cs : Array Value) (l : List Value) (e : cs = l.toArray) : Has (w.alloc (.cells cs t)) w.heap.size t l := by
  subst e; exact heap_alloc_new w _
theorem made1 (w : World) (o : Obj) (t : TypeId) (cs : Array Value) (l : List Value) (e : cs = l.toArray) : Has ((w.alloc o).alloc (.cells cs t)) (w.heap.size + 1) t l := by
  have := made' (w.alloc o) t cs l e
  simpa using this
theorem drew (h : Has w g t l) : Has w.drew g t l := h
theorem drewN (h : Has w g t l) (n : Nat) : Has (w.drewN n) g t l := h
theorem alloc (h : Has w g t l) (o : Obj) : Has (w.alloc o) g t l := (Below.heap_alloc w o g h.lt).trans h
theorem put (h : Has w g t l) (i : Nat) (u : Value) : Has (w.setCell ⟨g, i, none⟩ u) g t (l.set i u) := by
  unfold Has at h ⊢; simp [World.setCell, Array.getElem?_modify, h]
theorem off (h : Has w g t l) {p : Addr} (hp : g ≠ p.block) (u : Value) : Has (w.setCell p u) g t l := (Below.heap_setCell w p u g hp).trans h
theorem row (h : Has w g t l) (cs : Array Value) : Has (w.setRow g cs) g t cs.toList := by
  have := setRow_heap w g l.toArray cs t (0, 0) h
  unfold Has; simpa using this
theorem rowl (h : Has w g t l) (l' : List Value) : Has (w.setRow g l'.toArray) g t l' := setRow_heap w g l.toArray l'.toArray t (0, 0) h
theorem offRow (h : Has w g t l) {g' : Nat} (hg : g ≠ g') (cs : Array Value) : Has (w.setRow g' cs) g t l := (setRow_other w g' g cs hg).trans h
theorem keep {b : Nat} (h : Has w g t l) (hb : Below b w w') (hg : g < b) : Has w' g t l := (hb.block g hg).trans h
theorem apart {g' : Nat} {t' : TypeId} {l' : List Value} (h : Has w g t l) (h' : Has w g' t' l') (hne : t ≠ t') : g ≠ g' := by
  rintro rfl
  unfold Has at h h'; rw [h] at h'; injection h' with h'; injection h' with _ ht; exact hne ht
theorem apartl {g' : Nat} {t' : TypeId} {l' : List Value} (h : Has w g t l) (h' : Has w g' t' l') (hne : l.length ≠ l'.length) : g ≠ g' := by
  rintro rfl
  unfold Has at h h'; rw [h] at h'; injection h' with h'; injection h' with hl _
  exact hne (by have := congrArg Array.size hl; simpa using this)
end Has

theorem below_row {b : Nat} {a w : World} (h : Below b a w) {g : Nat} (hg : b ≤ g) (cs : Array Value) : Below b a (w.setRow g cs) :=
  ⟨h.os, h.tape, h.output, by rw [size_setRow]; exact h.size, fun k hk => (setRow_other w g k cs (by omega)).trans (h.block k hk)⟩
theorem below_drewN {b : Nat} {a w : World} (h : Below b a w) (n : Nat) : Below b a (w.drewN n) := ⟨h.os, h.tape, h.output, h.size, h.block⟩

theorem Has.mid {g : Nat} {t : TypeId} : ∀ (vs : List Value) (o : Nat) (w : World) (l : List Value), Has w g t l → o + vs.length ≤ l.length →
    Has (w.setCells g o vs) g t (l.take o ++ vs ++ l.drop (o + vs.length))
  | [], o, w, l, h, _ => by simpa [World.setCells] using h
  | v :: r, o, w, l, h, hl => by
    have h1 := Has.mid r (o + 1) _ _ (h.put o v) (by simp at hl ⊢; omega)
    simp only [List.length_cons] at hl
    have e1 : (l.set o v).take (o + 1) = l.take o ++ [v] := by
      rw [List.take_set, List.take_succ_eq_append_getElem (by omega), List.set_append_right _ _ (by rw [List.length_take]; omega)]
      simp [List.length_take, Nat.min_eq_left (show o ≤ l.length by omega)]
    have e2 : (l.set o v).drop (o + 1 + r.length) = l.drop (o + (r.length + 1)) := by
      rw [List.drop_set_of_lt (by omega)]; congr 1; omega
    rw [e1, e2] at h1
    simpa [World.setCells] using h1
theorem Has.offMid {g g' : Nat} {t : TypeId} {l : List Value} (hg : g ≠ g') : ∀ (vs : List Value) (o : Nat) (w : World), Has w g t l → Has (w.setCells g' o vs) g t l
  | [], _, _, h => h
  | v :: r, o, _, h => Has.offMid hg r (o + 1) _ (h.off hg v)
theorem below_setCells {b : Nat} {a : World} {g : Nat} (hg : b ≤ g) : ∀ (vs : List Value) (o : Nat) (w : World), Below b a w → Below b a (w.setCells g o vs)
  | [], _, _, h => h
  | v :: r, o, _, h => below_setCells hg r (o + 1) _ (h.setCell hg v)
theorem Has.there {w : World} {g : Nat} {t : TypeId} {l : List Value} (h : Has w g t l) (o n : Nat) (hn : o + n ≤ l.length) : w.there g o n := fun j hj =>
  ⟨by rw [h.cell, List.getElem?_eq_getElem (by omega)]; rfl, h.free _⟩

/-- A slice that reads as a list of one-cell values, laid below block b. -/
def Sees (w : World) (b : Nat) (p : Option Addr) (l : List Value) : Prop :=
  0 < l.length → ∃ a, p = some a ∧ a.block < b ∧ ∀ j u, l[j]? = some u → w.cell? (a.add j) = some u
theorem add_block (a : Addr) (n : Nat) : (a.add n).block = a.block := by unfold Addr.add; split <;> rfl
theorem add_add (a : Addr) (i j : Nat) : (a.add i).add j = a.add (i + j) := by
  unfold Addr.add
  by_cases hi : i = 0 <;> by_cases hj : j = 0 <;> simp [hi, hj, Nat.add_assoc]
namespace Sees
variable {w w' : World} {b b' : Nat} {p : Option Addr} {l : List Value}
theorem nil (w : World) (b : Nat) (p : Option Addr) : Sees w b p [] := fun h => absurd h (by simp)
theorem get (h : Sees w b p l) (hl : 0 < l.length) : ∃ a, p = some a ∧ a.block < b ∧ ∀ j u, l[j]? = some u → w.cell? (a.add j) = some u := h hl
theorem keep' (h : Sees w b p l) (hk : ∀ a : Addr, a.block < b → w'.cell? a = w.cell? a) : Sees w' b p l := fun hl => by
  obtain ⟨a, e, hb, hc⟩ := h hl
  exact ⟨a, e, hb, fun j u hu => (hk _ (by rw [add_block]; exact hb)).trans (hc j u hu)⟩
theorem keep (h : Sees w b p l) (hb : Below b w w') : Sees w' b p l := h.keep' fun _ hp => hb.cell hp
theorem more (h : Sees w b p l) (hb : b ≤ b') : Sees w b' p l := fun hl => by
  obtain ⟨a, e, hb', hc⟩ := h hl
  exact ⟨a, e, by omega, hc⟩
theorem cut (h : Sees w b p l) {k cap : Nat} (hk : l.length ≤ cap) : Sees w b (if cap = k then p else p.map (·.add k)) (l.drop k) := fun hl => by
  have hl' : k < l.length := by rw [List.length_drop] at hl; omega
  obtain ⟨a, rfl, hb, hc⟩ := h (by omega)
  rw [if_neg (by omega)]
  refine ⟨a.add k, rfl, by rw [add_block]; exact hb, fun j u hu => ?_⟩
  rw [add_add]; exact hc _ u (by rw [← hu, List.getElem?_drop])
theorem head (h : Sees w b p l) (k : Nat) : Sees w b p (l.take k) := fun hl => by
  obtain ⟨a, e, hb, hc⟩ := h (by rw [List.length_take] at hl; omega)
  refine ⟨a, e, hb, fun j u hu => hc j u ?_⟩
  rw [List.getElem?_take] at hu
  split at hu
  · exact hu
  · cases hu
theorem of_has {g : Nat} {t : TypeId} (h : Has w g t l) (hg : g < b) : Sees w b (some ⟨g, 0, none⟩) l := fun _ =>
  ⟨_, rfl, hg, fun j u hu => by
    have e : (Addr.add ⟨g, 0, none⟩ j) = ⟨g, j, none⟩ := by unfold Addr.add; split <;> simp_all
    rw [e]; exact h.cellv hu⟩
end Sees
end Go.Proofs.YtlidoikpfodpeaaDoor
/- What stands under the texts on sets, at a seat that has package sum's. No condition. -/
/- A region that draws its order, walked in one order that is named: an operation that yields the same in every world may be taken first; another one where it alone may come up. No condition. -/
namespace Go.Proofs.YtlidoikpfodpeaaDoor

section
variable {P : Program} {ops : Array Oper} {Q : Exit → Act → World → Prop}

/-- The operations by number; true: it yields the same in whatever world. -/
def wpOrd (P : Program) (ops : Array Oper) (Q : Exit → Act → World → Prop) : List (Nat × Bool) → Act → World → Prop
  | [], a, w => Q .normal a w
  | (i, true) :: r, a, w => ∃ o v, ops[i]? = some o ∧ YieldsIf P ops (fun _ => True) o v a ∧ wpOrd P ops Q r (a.put o.dst v) w
  | (i, false) :: r, a, w => wpOp P ops Q i (wpOrd P ops Q r) a w

def ordB (md : Region.Mode) (ops : Array Oper) : List (Nat × Bool) → Array Bool → Bool
  | [], listed => (Region.ready md ops listed).isEmpty
  | (i, true) :: r, listed => Region.free md ops listed i && ((Region.ready md ops listed).contains i && ordB md ops r (listed.setIfInBounds i true))
  | (i, false) :: r, listed => decide (Region.ready md ops listed = [i]) && ordB md ops r (listed.setIfInBounds i true)

theorem wpAnyH_of_ord {md : Region.Mode} (hs : Region.noSelect ops = true) (hQ : ∀ c a d v w, Q (.panic c) (a.put d v) w → Q (.panic c) a w) :
    ∀ (l : List (Nat × Bool)) (fuel : Nat) (listed : Array Bool) (a : Act) (w : World), l.length ≤ fuel → ordB md ops l listed = true → wpOrd P ops Q l a w →
      wpAnyH P md ops Q (fun _ => True) fuel listed a w
  | [], fuel, listed, a, w, _, hB, h => wpAnyH_done (by simpa [ordB] using hB) h fuel
  | (i, b) :: r, 0, _, _, _, hl, _, _ => absurd hl (by simp)
  | (i, true) :: r, fuel + 1, listed, a, w, hl, hB, h => by
    obtain ⟨o, v, ho, hy, hr⟩ := h
    simp only [ordB, Bool.and_eq_true] at hB
    exact wpAnyH_take ho hs hB.1 hB.2.1 (fun c a w => hQ c a _ v w) hy trivial (wpAnyH_of_ord hs hQ r fuel _ _ _ (by simpa using hl) hB.2.2 hr)
  | (i, false) :: r, fuel + 1, listed, a, w, hl, hB, h => by
    simp only [ordB, Bool.and_eq_true, decide_eq_true_eq] at hB
    refine wpAnyH_all hB.1 (by simp) (fun j hj => ?_)
    have hj : j = i := by simpa using hj
    subst hj
    exact wpOp_mono (fun a' w' h' => ⟨trivial, wpAnyH_of_ord hs hQ r fuel _ _ _ (by simpa using hl) hB.2 h'⟩) h

/-- The same with the operations themselves in their places. -/
def wpOrdL (P : Program) (ops : Array Oper) (Q : Exit → Act → World → Prop) : List (Oper × Bool) → Act → World → Prop
  | [], a, w => Q .normal a w
  | (o, true) :: r, a, w => ∃ v, YieldsIf P ops (fun _ => True) o v a ∧ wpOrdL P ops Q r (a.put o.dst v) w
  | (o, false) :: r, a, w => if Region.wanted o (yielded ops a.tmps) then o.wp P a w (wpOrdL P ops Q r) Q ∨ (o.asks P a w ∧ LetsOut Q) else wpOrdL P ops Q r (a.put o.dst undef) w
def pickOps (l : List Oper) : List (Nat × Bool) → List (Oper × Bool)
  | [] => []
  | (i, b) :: r => match l[i]? with
    | some o => (o, b) :: pickOps l r
    | none => pickOps l r
theorem wpOrd_of_L (ops : Array Oper) : ∀ (l : List (Nat × Bool)) (a : Act) (w : World), (l.all fun x => decide (x.1 < ops.size)) = true →
    wpOrdL P ops Q (pickOps ops.toList l) a w → wpOrd P ops Q l a w
  | [], _, _, _, h => h
  | (i, b) :: r, a, w, hl, h => by
    simp only [List.all_cons, Bool.and_eq_true, decide_eq_true_eq] at hl
    have ho : ops.toList[i]? = some ops[i] := by simp [hl.1]
    have ho' : ops[i]? = some ops[i] := by simp [hl.1]
    rw [pickOps, ho] at h
    cases b with
    | true =>
      obtain ⟨v, hy, hr⟩ := h
      exact ⟨_, v, ho', hy, wpOrd_of_L ops r _ _ hl.2 hr⟩
    | false =>
      show wpOp P ops Q i (wpOrd P ops Q r) a w
      have h2 : wpOp P ops Q i (wpOrdL P ops Q (pickOps ops.toList r)) a w := by unfold wpOp; rw [ho']; exact h
      exact wpOp_mono (fun a' w' h' => wpOrd_of_L ops r _ _ hl.2 h') h2
theorem ord_pure {o : Oper} {r : List (Oper × Bool)} {a : Act} {w : World} {v : Value} (hw : Region.wanted o (yielded ops a.tmps) = true)
    (hy : ∀ w', (execOp a.eval o).run P w' = .ok (.value v) w') (h : wpOrdL P ops Q r (a.put o.dst v) w) : wpOrdL P ops Q ((o, true) :: r) a w :=
  ⟨v, .inl ⟨hw, fun w' _ => hy w'⟩, h⟩
theorem ord_step {o : Oper} {r : List (Oper × Bool)} {a : Act} {w : World} (hg : o.guard = none)
    (h : ∀ K : Act → World → Prop, (∀ a w, wpOrdL P ops Q r a w → K a w) → o.wp P a w K Q) : wpOrdL P ops Q ((o, false) :: r) a w := by
  have := h _ (fun _ _ h => h)
  show if _ then _ else _
  rw [if_pos (by simp [Region.wanted, hg])]
  exact .inl this
/-- The region is shown not to panic. -/
theorem wp_region_ord {id : Nat} {a : Act} {w : World} {lo : List Oper} (l : List (Nat × Bool)) (hm : P.follows .mixedOrders = true) (hs : Region.noSelect lo.toArray = true)
    (hB : (decide (l.length ≤ lo.toArray.size) && (ordB .any lo.toArray l (Array.replicate lo.toArray.size false) && l.all fun x => decide (x.1 < lo.toArray.size))) = true)
    (h : wpOrdL P lo.toArray (NoPanic Q) (pickOps lo l) a w.drew) : (Code.region id lo.toArray true).wp P Q a w := by
  simp only [Bool.and_eq_true, decide_eq_true_eq] at hB
  exact wp_region_noPanic (wp_region_held hm (wpAnyH_of_ord hs (fun _ _ _ _ _ h => h) l _ _ _ _ hB.1 hB.2.1 (wpOrd_of_L _ _ _ _ hB.2.2 h)))
theorem ord_nil {a : Act} {w : World} (h : Q .normal a w) : wpOrdL P ops (NoPanic Q) [] a w := h
end
end Go.Proofs.YtlidoikpfodpeaaDoor
/- Sums as lists of thirty-two bytes: their order, that they are told apart; sum.Sum.Cmp as slices.SortFunc asks it. Condition: thirty-two bytes each. -/
namespace Go.Proofs.YtlidoikpfodpeaaDoor
open Go.RowKit
def strB (l : List (BitVec 8)) : ByteArray := ⟨(l.map UInt8.ofBitVec).toArray⟩
def cmpL : List (BitVec 8) → List (BitVec 8) → Int
  | a :: x, b :: y => if B a < B b then -1 else if B b < B a then 1 else cmpL x y
  | _, _ => 0
theorem cmpL_prefix (p x y : List (BitVec 8)) : cmpL (p ++ x) (p ++ y) = cmpL x y := by
  induction p with
  | nil => rfl
  | cons a p ih => simp [cmpL, ih]
theorem cmpL_self (x : List (BitVec 8)) : cmpL x x = 0 := by
  have := cmpL_prefix x [] []
  simpa [cmpL] using this
theorem split_at (x y : List (BitVec 8)) (k : Nat) (hx : k < x.length) (hy : k < y.length) (h : x.take k = y.take k) : cmpL x y = cmpL (at8 x k :: x.drop (k + 1)) (at8 y k :: y.drop (k + 1)) := by
  have e1 : x = x.take k ++ (at8 x k :: x.drop (k + 1)) := by
    conv => lhs; rw [← List.take_append_drop k x, List.drop_eq_getElem_cons hx]
    simp [at8, List.getD_eq_getElem?_getD, List.getElem?_eq_getElem hx]
  have e2 : y = x.take k ++ (at8 y k :: y.drop (k + 1)) := by
    conv => lhs; rw [← List.take_append_drop k y, List.drop_eq_getElem_cons hy, ← h]
    simp [at8, List.getD_eq_getElem?_getD, List.getElem?_eq_getElem hy]
  conv => lhs; rw [e1, e2, cmpL_prefix]
theorem take_next (x y : List (BitVec 8)) (k : Nat) (hx : k < x.length) (hy : k < y.length) (h : x.take k = y.take k) (he : at8 x k = at8 y k) : x.take (k + 1) = y.take (k + 1) := by
  have he' : x[k] = y[k] := by simpa [at8, List.getD_eq_getElem?_getD, List.getElem?_eq_getElem hx, List.getElem?_eq_getElem hy] using he
  rw [List.take_succ_eq_append_getElem hx, List.take_succ_eq_append_getElem hy, h, he']

theorem cmpL_vals : ∀ (x y : List (BitVec 8)), cmpL x y = -1 ∨ cmpL x y = 0 ∨ cmpL x y = 1
  | [], _ => by simp [cmpL]
  | _ :: _, [] => by simp [cmpL]
  | a :: x, b :: y => by
    have := cmpL_vals x y
    unfold cmpL
    split
    · exact .inl rfl
    · split
      · exact .inr (.inr rfl)
      · exact this
theorem cmpL_trans : ∀ (x y z : List (BitVec 8)), x.length = y.length → y.length = z.length → (cmpL x y ≤ 0 → cmpL y z ≤ 0 → cmpL x z ≤ 0) ∧ (cmpL x y < 0 → cmpL y z ≤ 0 → cmpL x z < 0)
  | [], _, _, _, _ => by simp [cmpL]
  | a :: x, b :: y, c :: z, h1, h2 => by
    have ih := cmpL_trans x y z (by simpa using h1) (by simpa using h2)
    unfold cmpL
    by_cases h1 : B a < B b
    · by_cases h2 : B b < B c
      · have h3 : B a < B c := by omega
        simp [h1, h2, h3]
      · by_cases h4 : B c < B b
        · simp [h1, h2, h4]
        · have h3 : B a < B c := by omega
          simp [h1, h3]
    · by_cases h5 : B b < B a
      · simp [h1, h5]
      · by_cases h2 : B b < B c
        · have h3 : B a < B c := by omega
          simp [h1, h5, h2, h3]
        · by_cases h4 : B c < B b
          · simp [h1, h5, h2, h4]
          · have h3 : ¬ B a < B c := by omega
            have h6 : ¬ B c < B a := by omega
            simpa only [h1, h5, h2, h4, h3, h6, if_false] using ih
  | _ :: _, [], _, h1, _ => by simp at h1
  | _ :: _, _ :: _, [], _, h2 => by simp at h2

theorem cmpL_zero : ∀ {x y : List (BitVec 8)}, x.length = y.length → (cmpL x y = 0 ↔ x = y)
  | [], [], _ => by simp [cmpL]
  | a :: x, b :: y, h => by
    have ih := cmpL_zero (x := x) (y := y) (by simpa using h)
    unfold cmpL
    by_cases h1 : B a < B b
    · rw [if_pos h1]; constructor
      · intro h; cases h
      · intro h; injection h with h2; subst h2; omega
    · rw [if_neg h1]
      by_cases h2 : B b < B a
      · rw [if_pos h2]; constructor
        · intro h; cases h
        · intro h; injection h with h3; subst h3; omega
      · rw [if_neg h2, ih]
        have : a = b := B_inj (by omega)
        subst this; simp
  | [], _ :: _, h => by simp at h
  | _ :: _, [], h => by simp at h
theorem cmpL_neg : ∀ (x y : List (BitVec 8)), x.length = y.length → cmpL y x = - cmpL x y
  | [], [], _ => rfl
  | a :: x, b :: y, h => by
    have ih := cmpL_neg x y (by simpa using h)
    unfold cmpL
    by_cases h1 : B a < B b
    · rw [if_pos h1, if_neg (by omega), if_pos h1]; rfl
    · rw [if_neg h1]
      by_cases h2 : B b < B a
      · rw [if_pos h2, if_neg h1, if_pos h2]
      · rw [if_neg h2, if_neg h2, if_neg h1, ih]
  | [], _ :: _, h => by simp at h
  | _ :: _, [], h => by simp at h
theorem u8v_cellU (l : List (BitVec 8)) : l.map u8v = (l.map UInt8.ofBitVec).map Extern.Stop.cell := by
  rw [List.map_map]; apply List.map_congr_left; intro x _
  simp [u8v, B, Extern.Stop.cell]
theorem beq_bytesU (a b : List (BitVec 8)) : (a.map UInt8.ofBitVec == b.map UInt8.ofBitVec) = decide (a = b) := by
  rw [Bool.eq_iff_iff, beq_iff_eq, decide_eq_true_iff]
  constructor
  · intro h
    have h2 := congrArg (List.map UInt8.toBitVec) h
    rw [List.map_map, List.map_map] at h2
    have e : (UInt8.toBitVec ∘ UInt8.ofBitVec) = id := by funext x; rfl
    rw [e, List.map_id, List.map_id] at h2
    exact h2
  · rintro rfl; rfl
theorem u8_sizeU (w : World) : (sizeOf 5).run Tryd.prog w = .ok 1 w := by kernel_rfl
theorem arr_eqlU (T : TypeId) (hT : Tryd.prog.underlying T = some (.array 32 5)) (a b : List (BitVec 8)) (ha : a.length = 32) (hb : b.length = 32) (w : World) :
    (binOp .eql T (.agg (a.map u8v).toArray) (.agg (b.map u8v).toArray)).run Tryd.prog w = .ok (.bool (decide (a = b))) w := by
  rw [u8v_cellU, u8v_cellU, run_eql_bytes w T 5 32 hT Tryd.underlying5 u8_sizeU _ _ (by simpa using ha) (by simpa using hb), beq_bytesU]
theorem add_zero_off (g j : Nat) : (Addr.add ⟨g, 0, none⟩ j) = ⟨g, j, none⟩ := by unfold Addr.add; split <;> simp_all
/-- The bytes as Go's string or slice of them. -/
theorem strB_size (x : List (BitVec 8)) : (strB x).size = x.length := by simp [strB, ByteArray.size]
theorem strB_get (x : List (BitVec 8)) (i : Nat) (h : i < x.length) : (strB x)[i]! = UInt8.ofBitVec (at8 x i) := by
  rw [getElem!_pos (strB x) i (by rw [strB_size]; exact h)]
  show (strB x).data[i]'_ = _
  simp [strB, at8, List.getD_eq_getElem?_getD, List.getElem?_eq_getElem h]
theorem B_lt_iff (p q : BitVec 8) : UInt8.ofBitVec p < UInt8.ofBitVec q ↔ B p < B q := by
  rw [UInt8.lt_iff_toNat_lt]; unfold B; show p.toNat < q.toNat ↔ _; omega
theorem cmp_strB (x y : List (BitVec 8)) (h : x.length = y.length) : Extern.BytealgCompare.cmp (strB x) (strB y) = cmpL x y := by
  unfold Extern.BytealgCompare.cmp
  rw [strB_size, strB_size, ← h, Nat.min_self]
  have hne : ∀ i, i < x.length → (((strB x)[i]! != (strB y)[i]!) = true ↔ at8 x i ≠ at8 y i) := fun i hi => by
    rw [strB_get x i hi, strB_get y i (by omega), bne_iff_ne, ne_eq, UInt8.ofBitVec.injEq]
  cases hf : (List.range x.length).find? fun i => (strB x)[i]! != (strB y)[i]! with
  | none =>
    have hxy : x = y := by
      refine List.ext_getElem h (fun i h1 h2 => ?_)
      have := List.find?_eq_none.1 hf i (List.mem_range.2 h1)
      rw [hne i h1] at this
      simpa [at8, List.getD_eq_getElem?_getD, List.getElem?_eq_getElem h1, List.getElem?_eq_getElem h2] using this
    subst hxy
    simp [cmpL_self]
  | some i =>
    obtain ⟨h1, h2, h3⟩ := List.find?_range_eq_some.1 hf
    have hi := List.mem_range.1 h2
    rw [hne i hi] at h1
    have ht : ∀ k, k ≤ i → x.take k = y.take k := fun k => by
      induction k with
      | zero => intro _; rfl
      | succ k ih =>
        intro hk
        have hq := h3 k (by omega)
        refine take_next x y k (by omega) (by omega) (ih (by omega)) ?_
        have := hne k (by omega)
        refine Classical.byContradiction fun hc => ?_
        simp [this.2 hc] at hq
    rw [split_at x y i hi (by omega) (ht i (Nat.le_refl _))]
    simp only [cmpL]
    rw [strB_get x i hi, strB_get y i (by omega)]
    have hB : B (at8 x i) ≠ B (at8 y i) := fun hc => h1 (B_inj hc)
    by_cases hl : B (at8 x i) < B (at8 y i)
    · rw [if_pos hl, if_pos ((B_lt_iff _ _).2 hl)]
    · rw [if_neg hl, if_neg (fun hc => hl ((B_lt_iff _ _).1 hc)), if_pos (by omega)]

theorem load_bytes (w : World) : ∀ (l : List (BitVec 8)) (a : Addr) (acc : ByteArray), (∀ j u, (l.map u8v)[j]? = some u → w.cell? (a.add j) = some u) →
    (Extern.Bytes.loadBytes a l.length acc).run Tryd.prog w = .ok ⟨acc.data ++ (l.map UInt8.ofBitVec).toArray⟩ w
  | [], a, acc, _ => by simp [Extern.Bytes.loadBytes]
  | x :: l, a, acc, h => by
    have h0 : w.cell? a = some (.int .u8 (B x)) := by
      have := h 0 (u8v x) rfl
      simpa [Addr.add, u8v] using this
    have ih := load_bytes w l (a.add 1) (acc.push (B x).toNat.toUInt8) (fun j y hy => by
      have := h (j + 1) y (by simpa using hy)
      rw [add_add, Nat.add_comm]; exact this)
    have e : (B x).toNat.toUInt8 = UInt8.ofBitVec x := by
      unfold B; rw [Int.toNat_natCast]
      exact UInt8.toNat_inj.1 (by simp)
    simp only [List.length_cons, Extern.Bytes.loadBytes, Sem.run_bind, run_load, h0, Result.andThen]
    rw [ih, e]
    simp [ByteArray.push]

theorem run_cmp (x y : List (BitVec 8)) (h : x.length = y.length) (a b : Addr) (c d : Nat) (w : World)
    (ha : ∀ j u, (x.map u8v)[j]? = some u → w.cell? (a.add j) = some u) (hb : ∀ j u, (y.map u8v)[j]? = some u → w.cell? (b.add j) = some u) :
    (callFunc 62 #[.slice (some a) x.length c, .slice (some b) y.length d]).run Tryd.prog w = .ok (.value (.int .i64 (cmpL x y))) w := by
  rw [run_callFunc_extern Tryd.func62 (by kernel_rfl) (by kernel_rfl) (by kernel_rfl) (e := Extern.BytealgCompare.compare) (by kernel_rfl)]
  have e : (Extern.BytealgCompare.compare #[.slice (some a) x.length c, .slice (some b) y.length d]).run Tryd.prog w = .ok (.int .i64 (cmpL x y)) w := by
    show (do pure (goInt (Extern.BytealgCompare.cmp (← Extern.Bytes.loadBytes a x.length .empty) (← Extern.Bytes.loadBytes b y.length .empty))) : Sem Value).run Tryd.prog w = _
    rw [Sem.run_bind, load_bytes w x a _ ha]
    simp only [Result.andThen]
    rw [Sem.run_bind, load_bytes w y b _ hb]
    simp only [Result.andThen, Sem.run_pure]
    have := cmp_strB x y h
    unfold strB at this
    simpa [goInt] using this
  rw [e]; rfl

theorem bcmp_any (x y : List (BitVec 8)) (h : x.length = y.length) (a b : Addr) (c d : Nat) (w : World)
    (ha : ∀ j u, (x.map u8v)[j]? = some u → w.cell? (a.add j) = some u) (hb : ∀ j u, (y.map u8v)[j]? = some u → w.cell? (b.add j) = some u) :
    Calls Tryd.prog 47 #[.slice (some a) x.length c, .slice (some b) y.length d] w fun e w' => e = .returned (.int .i64 (cmpL x y)) ∧ w = w' := by
  have hr := run_cmp x y h a b c d w ha hb
  clear ha hb h
  go_enter Tryd.func47, Tryd.ntmps47
  go_wp2_with fail
  go_ret
  exact ⟨rfl, rfl⟩

theorem two_grown (w : World) (o1 o2 : Obj) : ((w.alloc o1).alloc o2).drew = Sort.grow (w.drewN 1) #[o1, o2] := by
  rw [Sort.alloc_eq_grow, Sort.alloc_eq_grow, Sort.grow_grow]; rfl
set_option maxHeartbeats 1000000 in
theorem cmpg_any (x y : List (BitVec 8)) (hx : x.length = 32) (hy : y.length = 32) (w : World) :
    Calls Tryd.prog 29 #[.agg (x.map u8v).toArray, .agg (y.map u8v).toArray] w fun e w' => e = .returned (.int .i64 (cmpL x y)) ∧ (∃ q os, w' = Sort.grow (w.drewN q) os) := by
  obtain ⟨cx, hcx⟩ : ∃ cx, cx = x.map u8v := ⟨_, rfl⟩
  obtain ⟨cy, hcy⟩ : ∃ cy, cy = y.map u8v := ⟨_, rfl⟩
  rw [← hcx, ← hcy]
  have Hcx := Lib.hid hcx
  have Hcy := Lib.hid hcy
  have Hx := Lib.hid hx
  have Hy := Lib.hid hy
  clear hcx hcy hx hy
  go_enter Tryd.func29, Tryd.ntmps29
  go_upto_region 1 with fail
  generalize hw0 : (w.alloc _).alloc _ = w0
  have h2 : Has w0 w.heap.size 24 (x.map u8v) := by
    subst hw0; rw [← Hcx.out]; exact (Has.made' _ _ _ _ rfl).alloc _
  have h3 : Has w0 (w.heap.size + 1) 24 (y.map u8v) := by
    subst hw0; rw [← Hcy.out]; exact Has.made1 _ _ _ _ _ rfl
  have HB : Hid (∃ q os, w0.drew = Sort.grow (w.drewN q) os) := Lib.hid ⟨_, _, by subst hw0; exact two_grown _ _ _⟩
  clear hw0
  refine wp_region_ord [(0, true), (1, true), (2, false), (3, true)] (by kernel_rfl) (by kernel_rfl) (by kernel_rfl) ?_
  simp only [pickOps, List.getElem?_cons_zero, List.getElem?_cons_succ]
  (repeat (refine ord_pure (v := ?_) (by rfl) ?_ ?_; rotate_left; (· intro w'; go_simp; try with_reducible rfl); try simp only [Act.put, List.setIfInBounds_toArray, List.set_cons_zero, List.set_cons_succ]))
  refine ord_step (by rfl) (fun K hK => ?_)
  go_wp2_with fail
  have hc := bcmp_any x y (by rw [Hx.out, Hy.out]) ⟨w.heap.size, 0, none⟩ ⟨w.heap.size + 1, 0, none⟩ 32 32 w0.drew
    (fun j u hu => by rw [add_zero_off]; exact h2.cellv hu) (fun j u hu => by rw [add_zero_off]; exact h3.cellv hu)
  rw [Hx.out, Hy.out] at hc
  refine hc.mono ?_
  rintro e w3 ⟨rfl, rfl⟩
  clear hc
  go_wp2_with fail
  (repeat (refine ord_pure (v := ?_) (by rfl) ?_ ?_; rotate_left; (· intro w'; go_simp; try with_reducible rfl); try simp only [Act.put, List.setIfInBounds_toArray, List.set_cons_zero, List.set_cons_succ]))
  refine ord_nil ?_
  go_wp2_with fail
  go_ret
  exact ⟨rfl, HB.out⟩
theorem below_grow (w : World) (q : Nat) (os : Array Obj) : Below w.heap.size w (Sort.grow (w.drewN q) os) :=
  ⟨rfl, rfl, rfl, by show w.heap.size ≤ (w.heap ++ os).size; simp, fun k hk => by
    show (w.heap ++ os)[k]? = _
    rw [Array.getElem?_append_left hk]⟩
theorem cmp_any (x y : List (BitVec 8)) (hx : x.length = 32) (hy : y.length = 32) (w : World) :
    Calls Tryd.prog 29 #[.agg (x.map u8v).toArray, .agg (y.map u8v).toArray] w fun e w' => e = .returned (.int .i64 (cmpL x y)) ∧ Below w.heap.size w w' :=
  (cmpg_any x y hx hy w).mono fun _ _ ⟨h1, q, os, h2⟩ => ⟨h1, h2 ▸ below_grow w q os⟩
end Go.Proofs.YtlidoikpfodpeaaDoor
/- Plain laws of sets of sums: in order, each once; what one has and another has not; gone through two at a time; how many. No condition. -/
namespace Go.Proofs.YtlidoikpfodpeaaDoor
open Go.RowKit Go.Sort
/-- A sum: thirty-two bytes. -/
abbrev Su := { x : List (BitVec 8) // x.length = 32 }
instance : Inhabited Su := ⟨⟨List.replicate 32 0, by simp⟩⟩
def cmpU (x y : Su) : Int := cmpL x.1 y.1
theorem cmpU_len (x y : Su) : x.1.length = y.1.length := x.2.trans y.2.symm
theorem cmpU_vals (x y : Su) : cmpU x y = -1 ∨ cmpU x y = 0 ∨ cmpU x y = 1 := cmpL_vals _ _
theorem cmpU_self (x : Su) : cmpU x x = 0 := cmpL_self _
theorem cmpU_zero {x y : Su} : cmpU x y = 0 ↔ x = y := (cmpL_zero (cmpU_len x y)).trans Subtype.ext_iff.symm
theorem cmpU_neg (x y : Su) : cmpU y x = - cmpU x y := cmpL_neg _ _ (cmpU_len x y)
theorem cmpU_trans {x y z : Su} (h1 : cmpU x y ≤ 0) (h2 : cmpU y z ≤ 0) : cmpU x z ≤ 0 := (cmpL_trans _ _ _ (cmpU_len x y) (cmpU_len y z)).1 h1 h2
theorem cmpU_ltle {x y z : Su} (h1 : cmpU x y = -1) (h2 : cmpU y z ≤ 0) : cmpU x z = -1 := by
  have h3 := (cmpL_trans _ _ _ (cmpU_len x y) (cmpU_len y z)).2 (show cmpU x y < 0 by omega) h2
  have h4 : cmpU x z < 0 := h3
  rcases cmpU_vals x z with h | h | h <;> omega
theorem cmpU_lelt {x y z : Su} (h1 : cmpU x y ≤ 0) (h2 : cmpU y z = -1) : cmpU x z = -1 := by
  have h3 := cmpU_trans h1 (show cmpU y z ≤ 0 by omega)
  rcases cmpU_vals x z with h | h | h
  · exact h
  · have e := cmpU_zero.1 h
    subst e
    have := cmpU_neg y x
    omega
  · omega
/-- Each ahead of the next ones. -/
abbrev AscU (R : List Su) : Prop := R.Pairwise fun x y => cmpU x y = -1
theorem cmpU_flip {x y : Su} (h : cmpU x y = -1) : cmpU y x = 1 := by rw [cmpU_neg, h]; rfl
theorem ascU_unique : ∀ {A B : List Su}, AscU A → AscU B → (∀ x, x ∈ A ↔ x ∈ B) → A = B
  | [], [], _, _, _ => rfl
  | [], b :: B, _, _, h => absurd ((h b).2 (List.mem_cons_self ..)) (by simp)
  | a :: A, [], _, _, h => absurd ((h a).1 (List.mem_cons_self ..)) (by simp)
  | a :: A, b :: B, ha, hb, h => by
    obtain ⟨ha1, ha2⟩ := List.pairwise_cons.1 ha
    obtain ⟨hb1, hb2⟩ := List.pairwise_cons.1 hb
    have hab : a = b := by
      rcases List.mem_cons.1 ((h a).1 (List.mem_cons_self ..)) with e | e
      · exact e
      · rcases List.mem_cons.1 ((h b).2 (List.mem_cons_self ..)) with e2 | e2
        · exact e2.symm
        · have h1 := ha1 b e2
          have h2 := hb1 a e
          rw [cmpU_flip h2] at h1
          cases h1
    subst hab
    have hn : ∀ {C : List Su}, (∀ x ∈ C, cmpU a x = -1) → a ∉ C := fun hc hm => by
      have h1 := hc a hm
      rw [cmpU_self] at h1
      cases h1
    rw [ascU_unique ha2 hb2 (fun x => ?_)]
    constructor
    · intro hx
      rcases List.mem_cons.1 ((h x).1 (List.mem_cons_of_mem _ hx)) with e | e
      · exact absurd (e ▸ hx) (hn ha1)
      · exact e
    · intro hx
      rcases List.mem_cons.1 ((h x).2 (List.mem_cons_of_mem _ hx)) with e | e
      · exact absurd (e ▸ hx) (hn hb1)
      · exact e
theorem compactU_inv (M : List Su) (h : M.Pairwise fun x y => cmpU x y ≤ 0) : ∀ m, m ≤ M.length → AscU (Lib.compactUpTo M.toArray m) ∧ ∀ x, x ∈ Lib.compactUpTo M.toArray m ↔ x ∈ M.take m := by
  intro m
  induction m with
  | zero => intro _; exact ⟨by simp [Lib.compactUpTo], by simp [Lib.compactUpTo]⟩
  | succ m ih =>
    intro hm
    obtain ⟨i1, i2⟩ := ih (by omega)
    have hget : M.toArray[m]! = M[m] := getElem!_pos M.toArray m (by simpa using (show m < M.length by omega))
    have htk : M.take (m + 1) = M.take m ++ [M[m]] := by rw [List.take_add_one, List.getElem?_eq_getElem (show m < M.length by omega)]; rfl
    have hle : ∀ x ∈ M.take m, cmpU x M[m] ≤ 0 := fun x hx => by
      have h2 : (M.take (m + 1)).Pairwise fun x y => cmpU x y ≤ 0 := h.sublist (List.take_sublist _ _)
      rw [htk, List.pairwise_append] at h2
      exact h2.2.2 x hx M[m] (by simp)
    rw [Lib.compactUpTo_succ, htk]
    cases hk : Lib.keeps M.toArray m with
    | false =>
      unfold Lib.keeps at hk
      have hk2 := of_decide_eq_false hk
      have hm0 : m ≠ 0 := fun e => hk2 (.inl e)
      have he : M.toArray[m]! = M.toArray[m - 1]! := Classical.byContradiction fun e => hk2 (.inr e)
      rw [hget, getElem!_pos M.toArray (m - 1) (by simpa using (show m - 1 < M.length by omega))] at he
      have hin : M[m] ∈ M.take m := by
        rw [he, List.getElem_toArray]
        exact List.mem_take_iff_getElem.2 ⟨m - 1, by omega, rfl⟩
      simp only [Bool.false_eq_true, if_false, List.append_nil]
      refine ⟨i1, fun x => (i2 x).trans ⟨fun hx => List.mem_append_left _ hx, fun hx => ?_⟩⟩
      rcases List.mem_append.1 hx with e | e
      · exact e
      · rw [List.mem_singleton.1 e]; exact hin
    | true =>
      unfold Lib.keeps at hk
      have hk2 := of_decide_eq_true hk
      rw [if_pos rfl, hget]
      refine ⟨?_, fun x => by rw [List.mem_append, List.mem_append, i2 x]⟩
      refine List.pairwise_append.2 ⟨i1, by simp, fun x hx y hy => ?_⟩
      rw [List.mem_singleton.1 hy]
      have hx2 := (i2 x).1 hx
      have hl := hle x hx2
      rcases cmpU_vals x M[m] with e | e | e
      · exact e
      · exfalso
        have hxe := cmpU_zero.1 e
        obtain ⟨j, hj, hxj⟩ := List.mem_take_iff_getElem.1 hx2
        have hm0 : m ≠ 0 := by omega
        have hne : M.toArray[m]! ≠ M.toArray[m - 1]! := hk2.resolve_left hm0
        rw [hget, getElem!_pos M.toArray (m - 1) (by simpa using (show m - 1 < M.length by omega)), List.getElem_toArray] at hne
        have h1 : cmpU M[m - 1] M[m] ≤ 0 := hle _ (List.mem_take_iff_getElem.2 ⟨m - 1, by omega, rfl⟩)
        have h2 : cmpU x M[m - 1] ≤ 0 := by
          by_cases hjm : j = m - 1
          · subst hjm; rw [← hxj, cmpU_self]; exact Int.le_refl _
          · have := List.pairwise_iff_getElem.1 h j (m - 1) (by omega) (by omega) (by omega)
            rw [← hxj]; exact this
        rw [hxe] at h2
        have h3 := cmpU_neg M[m] M[m - 1]
        exact hne (cmpU_zero.1 (by omega))
      · omega
theorem compactU_srt (M : List Su) (h : M.Pairwise fun x y => cmpU x y ≤ 0) : AscU (Lib.compact M) ∧ ∀ x, x ∈ Lib.compact M ↔ x ∈ M := by
  have := compactU_inv M h M.length (Nat.le_refl _)
  rw [List.take_length] at this
  exact this

theorem asc_next {L : List Su} (h : ∀ i (hi : i + 1 < L.length), cmpU L[i] L[i + 1] = -1) : AscU L := by
  refine List.pairwise_iff_getElem.2 fun i j hi hj hij => ?_
  obtain ⟨d, rfl⟩ : ∃ d, j = i + 1 + d := ⟨j - (i + 1), by omega⟩
  clear hij
  induction d with
  | zero => exact h i hj
  | succ d ih => exact cmpU_ltle (ih (by omega)) (by have := h (i + 1 + d) (by omega); show cmpU L[i + 1 + d] L[i + 1 + d + 1] ≤ 0; omega)
theorem asc_at {L : List Su} (h : AscU L) (i : Nat) (hi : i + 1 < L.length) : cmpU L[i] L[i + 1] = -1 := List.pairwise_iff_getElem.1 h i (i + 1) (by omega) hi (by omega)
theorem asc_nodup {L : List Su} (h : AscU L) : L.Nodup := h.imp fun h e => by subst e; rw [cmpU_self] at h; cases h
/-- One is put in. -/
def putU (x : Su) : List Su → List Su
  | [] => [x]
  | y :: R => if cmpU x y = -1 then x :: y :: R else if x = y then y :: R else y :: putU x R
theorem mem_putU (x z : Su) : ∀ R : List Su, z ∈ putU x R ↔ z = x ∨ z ∈ R
  | [] => by simp [putU]
  | y :: R => by
    unfold putU
    split
    · simp
    · split
      · rename_i h; subst h; simp
      · rw [List.mem_cons, mem_putU x z R, List.mem_cons]
        constructor
        · rintro (h | h | h)
          · exact .inr (.inl h)
          · exact .inl h
          · exact .inr (.inr h)
        · rintro (h | h | h)
          · exact .inr (.inl h)
          · exact .inl h
          · exact .inr (.inr h)
theorem asc_putU (x : Su) : ∀ R : List Su, AscU R → AscU (putU x R)
  | [], _ => by simp [putU]
  | y :: R, h => by
    obtain ⟨h1, h2⟩ := List.pairwise_cons.1 h
    unfold putU
    split
    · rename_i hx
      refine List.pairwise_cons.2 ⟨fun z hz => ?_, h⟩
      rcases List.mem_cons.1 hz with rfl | hz
      · exact hx
      · exact cmpU_ltle hx (by rw [h1 z hz]; decide)
    · split
      · exact h
      · rename_i hx hne
        refine List.pairwise_cons.2 ⟨fun z hz => ?_, asc_putU x R h2⟩
        rcases (mem_putU x z R).1 hz with rfl | hz
        · have := cmpU_neg z y
          rcases cmpU_vals z y with e | e | e
          · exact absurd e hx
          · exact absurd (cmpU_zero.1 e) hne
          · omega
        · exact h1 z hz
theorem len_putU (x : Su) : ∀ R : List Su, x ∉ R → (putU x R).length = R.length + 1
  | [], _ => rfl
  | y :: R, h => by
    unfold putU
    split
    · rfl
    · split
      · rename_i e; exact absurd (e ▸ List.mem_cons_self ..) h
      · rw [List.length_cons, len_putU x R (fun hm => h (List.mem_cons_of_mem _ hm)), List.length_cons]
/-- What Of answers: each once, in order. -/
def srt (L : List Su) : List Su := L.foldr putU []
theorem asc_srt : ∀ L : List Su, AscU (srt L)
  | [] => List.Pairwise.nil
  | x :: L => asc_putU x _ (asc_srt L)
theorem mem_srt {x : Su} : ∀ {L : List Su}, x ∈ srt L ↔ x ∈ L
  | [] => Iff.rfl
  | y :: L => by
    show x ∈ putU y (srt L) ↔ _
    rw [mem_putU, mem_srt, List.mem_cons]
theorem srt_of {L R : List Su} (h : AscU R) (hm : ∀ x, x ∈ R ↔ x ∈ L) : R = srt L := ascU_unique h (asc_srt L) fun x => (hm x).trans mem_srt.symm
theorem srt_congr {L M : List Su} (hm : ∀ x, x ∈ L ↔ x ∈ M) : srt L = srt M := srt_of (asc_srt L) fun x => mem_srt.trans (hm x)
theorem srt_asc {L : List Su} (h : AscU L) : srt L = L := (srt_of h fun _ => Iff.rfl).symm
theorem srt_srt (L : List Su) : srt (srt L) = srt L := srt_asc (asc_srt L)
theorem len_srt : ∀ {L : List Su}, L.Nodup → (srt L).length = L.length
  | [], _ => rfl
  | x :: L, h => by
    obtain ⟨h1, h2⟩ := List.nodup_cons.1 h
    show (putU x (srt L)).length = _
    rw [len_putU x _ (fun hm => h1 (mem_srt.1 hm)), len_srt h2, List.length_cons]
theorem len_put_le (x : Su) : ∀ R : List Su, (putU x R).length ≤ R.length + 1
  | [] => Nat.le_refl _
  | y :: R => by
    unfold putU
    split
    · exact Nat.le_refl _
    · split
      · exact Nat.le_succ _
      · have := len_put_le x R; simp only [List.length_cons]; omega
theorem len_srt_le : ∀ L : List Su, (srt L).length ≤ L.length
  | [] => Nat.le_refl _
  | x :: L => by have := len_srt_le L; have h2 := len_put_le x (srt L); show (putU x (srt L)).length ≤ _; simp only [List.length_cons]; omega
theorem len_same {A B : List Su} (hA : A.Nodup) (hB : B.Nodup) (h : ∀ x, x ∈ A ↔ x ∈ B) : A.length = B.length := by rw [← len_srt hA, ← len_srt hB, srt_congr h]
/-- What one has more, what both have, what one of both has. -/
def minU (A B : List Su) : List Su := srt (A.filter fun x => !decide (x ∈ B))
def botU (A B : List Su) : List Su := srt (A.filter fun x => decide (x ∈ B))
def eitU (A B : List Su) : List Su := srt (A ++ B)
theorem mem_minU {A B : List Su} {x : Su} : x ∈ minU A B ↔ x ∈ A ∧ x ∉ B := by unfold minU; rw [mem_srt, List.mem_filter]; simp
theorem mem_botU {A B : List Su} {x : Su} : x ∈ botU A B ↔ x ∈ A ∧ x ∈ B := by unfold botU; rw [mem_srt, List.mem_filter]; simp
theorem mem_eitU {A B : List Su} {x : Su} : x ∈ eitU A B ↔ x ∈ A ∨ x ∈ B := by unfold eitU; rw [mem_srt, List.mem_append]
theorem asc_minU (A B : List Su) : AscU (minU A B) := asc_srt _
theorem asc_botU (A B : List Su) : AscU (botU A B) := asc_srt _
theorem asc_eitU (A B : List Su) : AscU (eitU A B) := asc_srt _
theorem len_minU (A B : List Su) : (minU A B).length ≤ A.length := Nat.le_trans (len_srt_le _) (List.length_filter_le _ _)
theorem len_botU (A B : List Su) : (botU A B).length ≤ A.length := Nat.le_trans (len_srt_le _) (List.length_filter_le _ _)
theorem len_eitU (A B : List Su) : (eitU A B).length ≤ A.length + B.length := Nat.le_trans (len_srt_le _) (by rw [List.length_append]; exact Nat.le_refl _)
/-- How many there are, apart and together. -/
theorem len_apart {A B : List Su} (hA : AscU A) : (minU A B).length + (botU A B).length + (minU B A).length = (eitU A B).length := by
  have hn : (A ++ minU B A).Nodup := List.nodup_append.2 ⟨asc_nodup hA, asc_nodup (asc_minU _ _), fun x hx y hy e => by
    subst e; exact (mem_minU.1 hy).2 hx⟩
  have h1 : (A ++ minU B A).length = (eitU A B).length := len_same hn (asc_nodup (asc_eitU _ _)) fun x => by
    rw [List.mem_append, mem_minU, mem_eitU]
    constructor
    · rintro (h | h)
      · exact .inl h
      · exact .inr h.1
    · rintro (h | h)
      · exact .inl h
      · by_cases hx : x ∈ A
        · exact .inl hx
        · exact .inr ⟨h, hx⟩
  have hn2 : (minU A B ++ botU A B).Nodup := List.nodup_append.2 ⟨asc_nodup (asc_minU _ _), asc_nodup (asc_botU _ _), fun x hx y hy e => by
    subst e; exact (mem_minU.1 hx).2 (mem_botU.1 hy).2⟩
  have h2 : (minU A B ++ botU A B).length = A.length := len_same hn2 (asc_nodup hA) fun x => by
    rw [List.mem_append, mem_minU, mem_botU]
    constructor
    · rintro (h | h) <;> exact h.1
    · intro h
      by_cases hx : x ∈ B
      · exact .inr ⟨h, hx⟩
      · exact .inl ⟨h, hx⟩
  rw [List.length_append] at h1 h2
  omega
/-- The least of two sets that rise, and in which of them it is. -/
def leastU : List Su → List Su → Su × Bool × Bool
  | [], [] => (default, false, false)
  | [], y :: _ => (y, false, true)
  | x :: _, [] => (x, true, false)
  | x :: _, y :: _ => if cmpU x y ≤ 0 then (x, true, decide (cmpU x y = 0)) else (y, false, true)
def mrgN (keep : Bool → Bool → Bool) : Nat → List Su → List Su → List Su
  | 0, _, _ => []
  | n + 1, A, B => if A = [] ∧ B = [] then [] else
      (if keep (leastU A B).2.1 (leastU A B).2.2 then [(leastU A B).1] else []) ++ mrgN keep n (if (leastU A B).2.1 then A.tail else A) (if (leastU A B).2.2 then B.tail else B)
theorem mrgN_nil (keep : Bool → Bool → Bool) : ∀ n, mrgN keep n [] [] = []
  | 0 => rfl
  | _ + 1 => by simp [mrgN]
/-- What is told of the least. -/
theorem least_fact {A B : List Su} (hA : AscU A) (hB : AscU B) (h : ¬ (A = [] ∧ B = [])) :
    ((leastU A B).2.1 = decide ((leastU A B).1 ∈ A)) ∧ ((leastU A B).2.2 = decide ((leastU A B).1 ∈ B)) ∧ ((leastU A B).1 ∈ A ∨ (leastU A B).1 ∈ B) ∧
    (∀ z, z ∈ (if (leastU A B).2.1 then A.tail else A) ↔ z ∈ A ∧ z ≠ (leastU A B).1) ∧ (∀ z, z ∈ (if (leastU A B).2.2 then B.tail else B) ↔ z ∈ B ∧ z ≠ (leastU A B).1) ∧
    (∀ z, (z ∈ A ∨ z ∈ B) → z ≠ (leastU A B).1 → cmpU (leastU A B).1 z = -1) := by
  have tl : ∀ {x : Su} {C : List Su}, AscU (x :: C) → ∀ z, z ∈ C ↔ z ∈ x :: C ∧ z ≠ x := fun {x C} h z => by
    have h1 := (List.pairwise_cons.1 h).1
    rw [List.mem_cons]
    constructor
    · intro hz
      refine ⟨.inr hz, fun e => ?_⟩
      subst e
      have := h1 z hz
      rw [cmpU_self] at this; cases this
    · rintro ⟨rfl | hz, hne⟩
      · exact absurd rfl hne
      · exact hz
  match A, B, hA, hB, h with
  | [], [], _, _, h => exact absurd ⟨rfl, rfl⟩ h
  | [], y :: B, _, hB, _ =>
    obtain ⟨h1, h2⟩ := List.pairwise_cons.1 hB
    refine ⟨by simp [leastU], by simp [leastU], .inr (by simp [leastU]), fun z => by simp [leastU], fun z => tl hB z, fun z hz hne => ?_⟩
    rcases hz with hz | hz
    · cases hz
    · rcases List.mem_cons.1 hz with e | hz
      · exact absurd e hne
      · exact h1 z hz
  | x :: A, [], hA, _, _ =>
    obtain ⟨h1, h2⟩ := List.pairwise_cons.1 hA
    refine ⟨by simp [leastU], by simp [leastU], .inl (by simp [leastU]), fun z => tl hA z, fun z => by simp [leastU], fun z hz hne => ?_⟩
    rcases hz with hz | hz
    · rcases List.mem_cons.1 hz with e | hz
      · exact absurd e hne
      · exact h1 z hz
    · cases hz
  | x :: A, y :: B, hA, hB, _ =>
    obtain ⟨h1, _⟩ := List.pairwise_cons.1 hA
    obtain ⟨h2, _⟩ := List.pairwise_cons.1 hB
    have h1' : ∀ z ∈ x :: A, cmpU x z ≤ 0 := fun z hz => by
      rcases List.mem_cons.1 hz with rfl | hz
      · rw [cmpU_self]; decide
      · rw [h1 z hz]; decide
    have h2' : ∀ z ∈ y :: B, cmpU y z ≤ 0 := fun z hz => by
      rcases List.mem_cons.1 hz with rfl | hz
      · rw [cmpU_self]; decide
      · rw [h2 z hz]; decide
    have lt : ∀ {u z : Su}, cmpU u z ≤ 0 → z ≠ u → cmpU u z = -1 := fun {u z} h hne => by
      rcases cmpU_vals u z with e | e | e
      · exact e
      · exact absurd (cmpU_zero.1 e).symm hne
      · omega
    by_cases hc : cmpU x y ≤ 0
    · have hL : leastU (x :: A) (y :: B) = (x, true, decide (cmpU x y = 0)) := by show (if cmpU x y ≤ 0 then _ else _) = _; rw [if_pos hc]
      rw [hL]
      have hxB : ∀ z ∈ y :: B, cmpU x z ≤ 0 := fun z hz => cmpU_trans hc (h2' z hz)
      have hin : (cmpU x y = 0) ↔ x ∈ y :: B := by
        constructor
        · intro e; rw [cmpU_zero.1 e]; exact List.mem_cons_self ..
        · intro hm
          have := h2' x hm
          have h3 := cmpU_neg x y
          omega
      refine ⟨by simp, by simp only [hin], .inl (List.mem_cons_self ..), fun z => tl hA z, fun z => ?_, fun z hz hne => ?_⟩
      · by_cases he : cmpU x y = 0
        · have := cmpU_zero.1 he
          subst this
          simp only [cmpU_self, decide_true, if_true]
          exact tl hB z
        · simp only [he, decide_false, Bool.false_eq_true, if_false]
          constructor
          · intro hz
            refine ⟨hz, fun e => he (hin.2 (e ▸ hz))⟩
          · exact fun h => h.1
      · rcases hz with hz | hz
        · exact lt (h1' z hz) hne
        · exact lt (hxB z hz) hne
    · have hL : leastU (x :: A) (y :: B) = (y, false, true) := by show (if cmpU x y ≤ 0 then _ else _) = _; rw [if_neg hc]
      rw [hL]
      have hyx : cmpU y x = -1 := by
        have := cmpU_neg x y
        rcases cmpU_vals x y with e | e | e <;> omega
      have hyA : ∀ z ∈ x :: A, cmpU y z = -1 := fun z hz => cmpU_ltle hyx (h1' z hz)
      have hin : y ∉ x :: A := fun hm => by
        have := hyA y hm
        rw [cmpU_self] at this; cases this
      refine ⟨by simp only [hin, decide_false], by simp, .inr (List.mem_cons_self ..), fun z => ?_, fun z => tl hB z, fun z hz hne => ?_⟩
      · simp only [Bool.false_eq_true, if_false]
        exact ⟨fun hz => ⟨hz, fun e => hin (e ▸ hz)⟩, fun h => h.1⟩
      · rcases hz with hz | hz
        · exact hyA z hz
        · exact lt (h2' z hz) hne
theorem asc_tail {A : List Su} (h : AscU A) : AscU A.tail := by
  cases A with
  | nil => exact h
  | cons x A => exact (List.pairwise_cons.1 h).2
theorem mrgN_spec (keep : Bool → Bool → Bool) : ∀ (n : Nat) (A B : List Su), AscU A → AscU B → A.length + B.length ≤ n →
    AscU (mrgN keep n A B) ∧ ∀ z, z ∈ mrgN keep n A B ↔ (z ∈ A ∨ z ∈ B) ∧ keep (decide (z ∈ A)) (decide (z ∈ B)) = true
  | 0, A, B, _, _, hl => by
    have h1 : A = [] := List.eq_nil_of_length_eq_zero (by omega)
    have h2 : B = [] := List.eq_nil_of_length_eq_zero (by omega)
    subst h1; subst h2
    exact ⟨List.Pairwise.nil, fun z => by simp [mrgN]⟩
  | n + 1, A, B, hA, hB, hl => by
    by_cases h0 : A = [] ∧ B = []
    · obtain ⟨rfl, rfl⟩ := h0
      rw [mrgN_nil]
      exact ⟨List.Pairwise.nil, fun z => by simp⟩
    · obtain ⟨f1, f2, f3, f4, f5, f6⟩ := least_fact hA hB h0
      have hA' : AscU (if (leastU A B).2.1 then A.tail else A) := by split; exact asc_tail hA; exact hA
      have hB' : AscU (if (leastU A B).2.2 then B.tail else B) := by split; exact asc_tail hB; exact hB
      have hlen : (if (leastU A B).2.1 then A.tail else A).length + (if (leastU A B).2.2 then B.tail else B).length ≤ n := by
        have k1 : A.tail.length = A.length - 1 := List.length_tail
        have k2 : B.tail.length = B.length - 1 := List.length_tail
        rcases f3 with h | h
        · have : 0 < A.length := List.length_pos_of_mem h
          rw [f1, decide_eq_true h, if_pos rfl, k1]
          split <;> omega
        · have : 0 < B.length := List.length_pos_of_mem h
          rw [f2, decide_eq_true h, if_pos rfl, k2]
          split <;> omega
      obtain ⟨i1, i2⟩ := mrgN_spec keep n _ _ hA' hB' hlen
      rw [mrgN, if_neg h0]
      generalize hA2 : (if (leastU A B).2.1 then A.tail else A) = A2 at *
      generalize hB2 : (if (leastU A B).2.2 then B.tail else B) = B2 at *
      generalize hM : mrgN keep n A2 B2 = M at *
      generalize hx : (leastU A B).1 = x at *
      rw [f1, f2]
      have hmem : ∀ z, z ∈ M → z ≠ x ∧ (z ∈ A ∨ z ∈ B) := fun z hz => by
        have := ((i2 z).1 hz).1
        rw [f4 z, f5 z] at this
        rcases this with h | h
        · exact ⟨h.2, .inl h.1⟩
        · exact ⟨h.2, .inr h.1⟩
      have key : ∀ z, z ∈ M ↔ z ≠ x ∧ (z ∈ A ∨ z ∈ B) ∧ keep (decide (z ∈ A)) (decide (z ∈ B)) = true := fun z => by
        rw [i2 z]
        simp only [f4 z, f5 z]
        by_cases hz : z = x
        · simp [hz]
        · simp [hz]
      refine ⟨?_, fun z => ?_⟩
      · split
        · exact List.pairwise_cons.2 ⟨fun z hz => f6 z (hmem z hz).2 (hmem z hz).1, i1⟩
        · exact i1
      · rw [List.mem_append, key z]
        by_cases hz : z = x
        · subst hz
          by_cases hk : keep (decide (z ∈ A)) (decide (z ∈ B)) = true
          · simp [hk, f3]
          · simp [hk]
        · by_cases hk : keep (decide (x ∈ A)) (decide (x ∈ B)) = true
          · simp [hk, hz]
          · simp [hk, hz]
def kMin (a b : Bool) : Bool := a && !b
def kBot (a b : Bool) : Bool := a && b
def kEit (a b : Bool) : Bool := a || b
theorem mrg_min (A B : List Su) : mrgN kMin ((srt A).length + (srt B).length) (srt A) (srt B) = minU A B := by
  obtain ⟨h1, h2⟩ := mrgN_spec kMin _ (srt A) (srt B) (asc_srt A) (asc_srt B) (Nat.le_refl _)
  refine ascU_unique h1 (asc_minU _ _) fun z => ?_
  rw [h2, mem_minU]
  simp only [mem_srt]
  unfold kMin
  by_cases a : z ∈ A <;> by_cases b : z ∈ B <;> simp [a, b]
theorem mrg_bot (A B : List Su) : mrgN kBot ((srt A).length + (srt B).length) (srt A) (srt B) = botU A B := by
  obtain ⟨h1, h2⟩ := mrgN_spec kBot _ (srt A) (srt B) (asc_srt A) (asc_srt B) (Nat.le_refl _)
  refine ascU_unique h1 (asc_botU _ _) fun z => ?_
  rw [h2, mem_botU]
  simp only [mem_srt]
  unfold kBot
  by_cases a : z ∈ A <;> by_cases b : z ∈ B <;> simp [a, b]
theorem mrg_eit (A B : List Su) : mrgN kEit ((srt A).length + (srt B).length) (srt A) (srt B) = eitU A B := by
  obtain ⟨h1, h2⟩ := mrgN_spec kEit _ (srt A) (srt B) (asc_srt A) (asc_srt B) (Nat.le_refl _)
  refine ascU_unique h1 (asc_eitU _ _) fun z => ?_
  rw [h2, mem_eitU]
  simp only [mem_srt]
  unfold kEit
  by_cases a : z ∈ A <;> by_cases b : z ∈ B <;> simp [a, b]
/-- For the sort: by what is less. -/
theorem ltU_iff (x y : Su) : ltOf cmpU x y = true ↔ cmpU x y < 0 := decide_eq_true_iff
theorem nltU_iff (x y : Su) : ltOf cmpU x y = false ↔ cmpU y x ≤ 0 := by
  unfold ltOf
  rw [decide_eq_false_iff_not, cmpU_neg x y]
  omega
theorem swoU : SWO (ltOf cmpU) where
  irrefl x := by rw [nltU_iff, cmpU_self]; exact Int.le_refl _
  trans x y z h1 h2 := by
    rw [ltU_iff] at *
    have e : cmpU x y = -1 := by rcases cmpU_vals x y with e | e | e <;> omega
    have := cmpU_ltle e (show cmpU y z ≤ 0 by omega)
    omega
  ntrans x y z h1 h2 := by
    rw [nltU_iff] at *
    exact cmpU_trans h2 h1
theorem partedU (x y : Su) (h1 : ltOf cmpU x y = false) (h2 : ltOf cmpU y x = false) : x = y := by
  rw [nltU_iff] at h1 h2
  have := cmpU_neg x y
  exact cmpU_zero.1 (by omega)
theorem sortU_facts (D : List Su) : (D.mergeSort fun x y => !(ltOf cmpU) y x).Perm D ∧ (D.mergeSort fun x y => !(ltOf cmpU) y x).Pairwise fun x y => cmpU x y ≤ 0 := by
  refine ⟨List.mergeSort_perm D _, ?_⟩
  refine (List.pairwise_mergeSort (le := fun x y => !(ltOf cmpU) y x) (fun a b c h1 h2 => ?_) (fun a b => ?_) D).imp fun h => ?_
  · simp only [Bool.not_eq_true', nltU_iff] at *
    exact cmpU_trans h1 h2
  · simp only [Bool.or_eq_true, Bool.not_eq_true', nltU_iff]
    have := cmpU_neg a b
    omega
  · simpa [nltU_iff] using h
theorem of_srt (D : List Su) : Lib.compact (D.mergeSort fun x y => !(ltOf cmpU) y x) = srt D := by
  obtain ⟨h1, h2⟩ := sortU_facts D
  obtain ⟨h3, h4⟩ := compactU_srt _ h2
  exact srt_of h3 fun x => (h4 x).trans h1.mem_iff
end Go.Proofs.YtlidoikpfodpeaaDoor
/- A region that draws its order, walked step by step under a condition S on the memory: an operation that yields the same in every world that meets S may be taken first; else whichever may come up is carried out, and S shown anew. No condition. -/
namespace Go.Proofs.YtlidoikpfodpeaaDoor
section
variable {P : Program} {lo : List Oper} {Q : Exit → Act → World → Prop} {S : World → Prop}
theorem held_start {id : Nat} {a : Act} {w : World} (S : World → Prop) (hm : P.follows .mixedOrders = true) (hS : S w.drew)
    (h : wpAnyH P .any lo.toArray (NoPanic Q) S lo.toArray.size (Array.replicate lo.toArray.size false) a w.drew) : (Code.region id lo.toArray true).wp P Q a w :=
  wp_region_noPanic (wp_region_held_drew hm hS fun _ => h)
theorem held_take (i : Nat) {fuel : Nat} {listed : Array Bool} {a : Act} {w : World} {o : Oper} {v : Value} (ho : lo[i]? = some o)
    (hc : (Region.noSelect lo.toArray && (Region.free .any lo.toArray listed i && (Region.ready .any lo.toArray listed).contains i)) = true) (hw : Region.wanted o (yielded lo.toArray a.tmps) = true) (hS : S w)
    (hy : ∀ w', S w' → (execOp a.eval o).run P w' = .ok (.value v) w')
    (h : wpAnyH P .any lo.toArray (NoPanic Q) S fuel (listed.setIfInBounds i true) (a.put o.dst v) w) : wpAnyH P .any lo.toArray (NoPanic Q) S (fuel + 1) listed a w := by
  simp only [Bool.and_eq_true] at hc
  exact wpAnyH_take (i := i) (oi := o) (v := v) (by simpa using ho) hc.1 hc.2.1 hc.2.2 (fun _ _ _ h => h) (.inl ⟨hw, hy⟩) hS h
theorem held_step {i : Nat} {fuel : Nat} {listed : Array Bool} {a : Act} {w : World} {o : Oper} (ho : lo[i]? = some o) (hw : Region.wanted o (yielded lo.toArray a.tmps) = true)
    (h : ∀ K : Act → World → Prop, (∀ a w, (S w ∧ wpAnyH P .any lo.toArray (NoPanic Q) S fuel (listed.setIfInBounds i true) a w) → K a w) → o.wp P a w K (NoPanic Q)) :
    wpOp P lo.toArray (NoPanic Q) i (fun a' w' => S w' ∧ wpAnyH P .any lo.toArray (NoPanic Q) S fuel (listed.setIfInBounds i true) a' w') a w := by
  have hx := h _ (fun _ _ h => h)
  unfold wpOp
  rw [show lo.toArray[i]? = some o by simpa using ho]
  show if _ then _ else _
  rw [if_pos hw]
  exact .inl hx
theorem held_one (i : Nat) {fuel : Nat} {listed : Array Bool} {a : Act} {w : World} {o : Oper} (ho : lo[i]? = some o) (hr : Region.ready .any lo.toArray listed = [i]) (hw : Region.wanted o (yielded lo.toArray a.tmps) = true)
    (h : ∀ K : Act → World → Prop, (∀ a w, (S w ∧ wpAnyH P .any lo.toArray (NoPanic Q) S fuel (listed.setIfInBounds i true) a w) → K a w) → o.wp P a w K (NoPanic Q)) :
    wpAnyH P .any lo.toArray (NoPanic Q) S (fuel + 1) listed a w := by
  refine wpAnyH_all hr (by simp) (fun j hj => ?_)
  have hj : j = i := by simpa using hj
  subst hj
  exact held_step ho hw h
theorem held_two (i j : Nat) {fuel : Nat} {listed : Array Bool} {a : Act} {w : World} {o o' : Oper} (ho : lo[i]? = some o) (ho' : lo[j]? = some o') (hr : Region.ready .any lo.toArray listed = [i, j])
    (hw : Region.wanted o (yielded lo.toArray a.tmps) = true) (hw' : Region.wanted o' (yielded lo.toArray a.tmps) = true)
    (h : ∀ K : Act → World → Prop, (∀ a w, (S w ∧ wpAnyH P .any lo.toArray (NoPanic Q) S fuel (listed.setIfInBounds i true) a w) → K a w) → o.wp P a w K (NoPanic Q))
    (h' : ∀ K : Act → World → Prop, (∀ a w, (S w ∧ wpAnyH P .any lo.toArray (NoPanic Q) S fuel (listed.setIfInBounds j true) a w) → K a w) → o'.wp P a w K (NoPanic Q)) :
    wpAnyH P .any lo.toArray (NoPanic Q) S (fuel + 1) listed a w := by
  refine wpAnyH_all hr (by simp) (fun k hk => ?_)
  simp only [List.mem_cons, List.mem_nil_iff, or_false] at hk
  rcases hk with rfl | rfl
  · exact held_step ho hw h
  · exact held_step ho' hw' h'
theorem held_three (i j k : Nat) {fuel : Nat} {listed : Array Bool} {a : Act} {w : World} {o o' o'' : Oper} (ho : lo[i]? = some o) (ho' : lo[j]? = some o') (ho'' : lo[k]? = some o'') (hr : Region.ready .any lo.toArray listed = [i, j, k])
    (hw : Region.wanted o (yielded lo.toArray a.tmps) = true) (hw' : Region.wanted o' (yielded lo.toArray a.tmps) = true) (hw'' : Region.wanted o'' (yielded lo.toArray a.tmps) = true)
    (h : ∀ K : Act → World → Prop, (∀ a w, (S w ∧ wpAnyH P .any lo.toArray (NoPanic Q) S fuel (listed.setIfInBounds i true) a w) → K a w) → o.wp P a w K (NoPanic Q))
    (h' : ∀ K : Act → World → Prop, (∀ a w, (S w ∧ wpAnyH P .any lo.toArray (NoPanic Q) S fuel (listed.setIfInBounds j true) a w) → K a w) → o'.wp P a w K (NoPanic Q))
    (h'' : ∀ K : Act → World → Prop, (∀ a w, (S w ∧ wpAnyH P .any lo.toArray (NoPanic Q) S fuel (listed.setIfInBounds k true) a w) → K a w) → o''.wp P a w K (NoPanic Q)) :
    wpAnyH P .any lo.toArray (NoPanic Q) S (fuel + 1) listed a w := by
  refine wpAnyH_all hr (by simp) (fun l hl => ?_)
  simp only [List.mem_cons, List.mem_nil_iff, or_false] at hl
  rcases hl with rfl | rfl | rfl
  · exact held_step ho hw h
  · exact held_step ho' hw' h'
  · exact held_step ho'' hw'' h''
theorem held_done {fuel : Nat} {listed : Array Bool} {a : Act} {w : World} (hr : Region.ready .any lo.toArray listed = []) (h : Q .normal a w) : wpAnyH P .any lo.toArray (NoPanic Q) S fuel listed a w :=
  wpAnyH_done hr (show NoPanic Q .normal a w from h) fuel
end
end Go.Proofs.YtlidoikpfodpeaaDoor
/- A region that draws its order, walked in one named order under a condition S on the memory: an operation that yields the same in every world that meets S may be taken first, another one where it alone may come up; a guarded one that is not wanted is passed over. No condition. -/
namespace Go.Proofs.YtlidoikpfodpeaaDoor
section
variable {P : Program} {ops : Array Oper} {S : World → Prop} {Q : Exit → Act → World → Prop}
def wpOrs (P : Program) (ops : Array Oper) (S : World → Prop) (Q : Exit → Act → World → Prop) : List (Nat × Bool) → Act → World → Prop
  | [], a, w => Q .normal a w
  | (i, true) :: r, a, w => ∃ o v, ops[i]? = some o ∧ YieldsIf P ops S o v a ∧ wpOrs P ops S Q r (a.put o.dst v) w
  | (i, false) :: r, a, w => wpOp P ops Q i (fun a' w' => S w' ∧ wpOrs P ops S Q r a' w') a w
def orsB (md : Region.Mode) (ops : Array Oper) : List (Nat × Bool) → Array Bool → Bool
  | [], listed => (Region.ready md ops listed).isEmpty
  | (i, true) :: r, listed => Region.free md ops listed i && ((Region.ready md ops listed).contains i && orsB md ops r (listed.setIfInBounds i true))
  | (i, false) :: r, listed => decide (Region.ready md ops listed = [i]) && orsB md ops r (listed.setIfInBounds i true)
theorem wpAnyH_of_ors {md : Region.Mode} (hs : Region.noSelect ops = true) (hQ : ∀ c a d v w, Q (.panic c) (a.put d v) w → Q (.panic c) a w) :
    ∀ (l : List (Nat × Bool)) (fuel : Nat) (listed : Array Bool) (a : Act) (w : World), l.length ≤ fuel → orsB md ops l listed = true → S w → wpOrs P ops S Q l a w →
      wpAnyH P md ops Q S fuel listed a w
  | [], fuel, listed, a, w, _, hB, _, h => wpAnyH_done (by simpa [orsB] using hB) h fuel
  | (i, b) :: r, 0, _, _, _, hl, _, _, _ => absurd hl (by simp)
  | (i, true) :: r, fuel + 1, listed, a, w, hl, hB, hS, h => by
    obtain ⟨o, v, ho, hy, hr⟩ := h
    simp only [orsB, Bool.and_eq_true] at hB
    exact wpAnyH_take ho hs hB.1 hB.2.1 (fun c a w => hQ c a _ v w) hy hS (wpAnyH_of_ors hs hQ r fuel _ _ _ (by simpa using hl) hB.2.2 hS hr)
  | (i, false) :: r, fuel + 1, listed, a, w, hl, hB, hS, h => by
    simp only [orsB, Bool.and_eq_true, decide_eq_true_eq] at hB
    refine wpAnyH_all hB.1 (by simp) (fun j hj => ?_)
    have hj : j = i := by simpa using hj
    subst hj
    exact wpOp_mono (fun a' w' h' => ⟨h'.1, wpAnyH_of_ors hs hQ r fuel _ _ _ (by simpa using hl) hB.2 h'.1 h'.2⟩) h
def wpOrsL (P : Program) (ops : Array Oper) (S : World → Prop) (Q : Exit → Act → World → Prop) : List (Oper × Bool) → Act → World → Prop
  | [], a, w => Q .normal a w
  | (o, true) :: r, a, w => ∃ v, YieldsIf P ops S o v a ∧ wpOrsL P ops S Q r (a.put o.dst v) w
  | (o, false) :: r, a, w => if Region.wanted o (yielded ops a.tmps) then o.wp P a w (fun a' w' => S w' ∧ wpOrsL P ops S Q r a' w') Q ∨ (o.asks P a w ∧ LetsOut Q) else (S w ∧ wpOrsL P ops S Q r (a.put o.dst undef) w)
def pickOrs (l : List Oper) : List (Nat × Bool) → List (Oper × Bool)
  | [] => []
  | (i, b) :: r => match l[i]? with
    | some o => (o, b) :: pickOrs l r
    | none => pickOrs l r
theorem wpOrs_of_L (ops : Array Oper) : ∀ (l : List (Nat × Bool)) (a : Act) (w : World), (l.all fun x => decide (x.1 < ops.size)) = true →
    wpOrsL P ops S Q (pickOrs ops.toList l) a w → wpOrs P ops S Q l a w
  | [], _, _, _, h => h
  | (i, b) :: r, a, w, hl, h => by
    simp only [List.all_cons, Bool.and_eq_true, decide_eq_true_eq] at hl
    have ho : ops.toList[i]? = some ops[i] := by simp [hl.1]
    have ho' : ops[i]? = some ops[i] := by simp [hl.1]
    rw [pickOrs, ho] at h
    cases b with
    | true =>
      obtain ⟨v, hy, hr⟩ := h
      exact ⟨_, v, ho', hy, wpOrs_of_L ops r _ _ hl.2 hr⟩
    | false =>
      show wpOp P ops Q i (fun a' w' => S w' ∧ wpOrs P ops S Q r a' w') a w
      have h2 : wpOp P ops Q i (fun a' w' => S w' ∧ wpOrsL P ops S Q (pickOrs ops.toList r) a' w') a w := by unfold wpOp; rw [ho']; exact h
      exact wpOp_mono (fun a' w' h' => ⟨h'.1, wpOrs_of_L ops r _ _ hl.2 h'.2⟩) h2
theorem ors_pure {o : Oper} {r : List (Oper × Bool)} {a : Act} {w : World} {v : Value} (hw : Region.wanted o (yielded ops a.tmps) = true)
    (hy : ∀ w', S w' → (execOp a.eval o).run P w' = .ok (.value v) w') (h : wpOrsL P ops S Q r (a.put o.dst v) w) : wpOrsL P ops S Q ((o, true) :: r) a w :=
  ⟨v, .inl ⟨hw, hy⟩, h⟩
theorem ors_skip {o : Oper} {r : List (Oper × Bool)} {a : Act} {w : World} (hw : Region.wanted o (yielded ops a.tmps) = false)
    (h : wpOrsL P ops S Q r (a.put o.dst undef) w) : wpOrsL P ops S Q ((o, true) :: r) a w :=
  ⟨undef, .inr ⟨hw, rfl⟩, h⟩
theorem ors_step {o : Oper} {r : List (Oper × Bool)} {a : Act} {w : World} (hw : Region.wanted o (yielded ops a.tmps) = true)
    (h : ∀ K : Act → World → Prop, (∀ a w, S w ∧ wpOrsL P ops S Q r a w → K a w) → o.wp P a w K Q) : wpOrsL P ops S Q ((o, false) :: r) a w := by
  have := h _ (fun _ _ h => h)
  show if _ then _ else _
  rw [if_pos hw]
  exact .inl this
theorem ors_pass {o : Oper} {r : List (Oper × Bool)} {a : Act} {w : World} (hw : Region.wanted o (yielded ops a.tmps) = false) (hS : S w)
    (h : wpOrsL P ops S Q r (a.put o.dst undef) w) : wpOrsL P ops S Q ((o, false) :: r) a w := by
  show if _ then _ else _
  rw [if_neg (by rw [hw]; simp)]
  exact ⟨hS, h⟩
/-- The region is shown not to panic. -/
theorem wp_region_ors (S : World → Prop) {id : Nat} {a : Act} {w : World} {lo : List Oper} (l : List (Nat × Bool)) (hm : P.follows .mixedOrders = true) (hs : Region.noSelect lo.toArray = true)
    (hB : (decide (l.length ≤ lo.toArray.size) && (orsB .any lo.toArray l (Array.replicate lo.toArray.size false) && l.all fun x => decide (x.1 < lo.toArray.size))) = true)
    (hS : S w.drew) (h : wpOrsL P lo.toArray S (NoPanic Q) (pickOrs lo l) a w.drew) : (Code.region id lo.toArray true).wp P Q a w := by
  simp only [Bool.and_eq_true, decide_eq_true_eq] at hB
  exact wp_region_noPanic (wp_region_held_drew hm hS fun hS => wpAnyH_of_ors hs (fun _ _ _ _ _ h => h) l _ _ _ _ hB.1 hB.2.1 hS (wpOrs_of_L _ _ _ _ hB.2.2 h))
theorem ors_nil {a : Act} {w : World} (h : Q .normal a w) : wpOrsL P ops S (NoPanic Q) [] a w := h
end
end Go.Proofs.YtlidoikpfodpeaaDoor
/- A region that draws its order, walked in one named order; the condition on the memory follows the world: behind each operation it is 'new memory beside what the world now holds', so that what a call has made may be read by an operation that is taken first. No condition. -/
namespace Go.Proofs.YtlidoikpfodpeaaDoor
open Go.RowKit
/-- The world has grown. -/
def Ext (w w' : World) : Prop := Below w.heap.size w w'
theorem Ext.refl (w : World) : Ext w w := Below.refl _ _
theorem Ext.trans {a b c : World} (h : Ext a b) (h' : Ext b c) : Ext a c := Below.trans h (Below.mono h' (Below.size h))
section
variable {P : Program} {md : Region.Mode} {ops : Array Oper} {Q : Exit → Act → World → Prop}
theorem wpAnyH_mono {S S' : World → Prop} (hS : ∀ w, S' w → S w) : ∀ (fuel : Nat) (listed : Array Bool) (a : Act) (w : World), wpAnyH P md ops Q S' fuel listed a w → wpAnyH P md ops Q S fuel listed a w
  | 0, _, _, _, h => h
  | fuel + 1, _, _, _, h => ⟨h.1, fun i hi => wpOp_mono (fun a' w' h' => ⟨hS _ h'.1, wpAnyH_mono hS fuel _ a' w' h'.2⟩) (h.2 i hi)⟩
def wpOrg (P : Program) (ops : Array Oper) (Q : Exit → Act → World → Prop) : List (Nat × Bool) → Act → World → Prop
  | [], a, w => Q .normal a w
  | (i, true) :: r, a, w => ∃ o v, ops[i]? = some o ∧ YieldsIf P ops (Ext w) o v a ∧ wpOrg P ops Q r (a.put o.dst v) w
  | (i, false) :: r, a, w => wpOp P ops Q i (fun a' w' => Ext w w' ∧ wpOrg P ops Q r a' w') a w
theorem wpAnyH_of_org (hs : Region.noSelect ops = true) (hQ : ∀ c a d v w, Q (.panic c) (a.put d v) w → Q (.panic c) a w) :
    ∀ (l : List (Nat × Bool)) (fuel : Nat) (listed : Array Bool) (a : Act) (w : World), l.length ≤ fuel → orsB md ops l listed = true → wpOrg P ops Q l a w →
      wpAnyH P md ops Q (Ext w) fuel listed a w
  | [], fuel, listed, a, w, _, hB, h => wpAnyH_done (by simpa [orsB] using hB) h fuel
  | (i, b) :: r, 0, _, _, _, hl, _, _ => absurd hl (by simp)
  | (i, true) :: r, fuel + 1, listed, a, w, hl, hB, h => by
    obtain ⟨o, v, ho, hy, hr⟩ := h
    simp only [orsB, Bool.and_eq_true] at hB
    exact wpAnyH_take ho hs hB.1 hB.2.1 (fun c a w => hQ c a _ v w) hy (Ext.refl w) (wpAnyH_of_org hs hQ r fuel _ _ _ (by simpa using hl) hB.2.2 hr)
  | (i, false) :: r, fuel + 1, listed, a, w, hl, hB, h => by
    simp only [orsB, Bool.and_eq_true, decide_eq_true_eq] at hB
    refine wpAnyH_all hB.1 (by simp) (fun j hj => ?_)
    have hj : j = i := by simpa using hj
    subst hj
    exact wpOp_mono (fun a' w' h' => ⟨h'.1, wpAnyH_mono (fun x hx => Ext.trans h'.1 hx) _ _ _ _ (wpAnyH_of_org hs hQ r fuel _ _ _ (by simpa using hl) hB.2 h'.2)⟩) h
/-- The same with the operations themselves in their places. -/
def wpOrgL (P : Program) (ops : Array Oper) (Q : Exit → Act → World → Prop) : List (Oper × Bool) → Act → World → Prop
  | [], a, w => Q .normal a w
  | (o, true) :: r, a, w => ∃ v, YieldsIf P ops (Ext w) o v a ∧ wpOrgL P ops Q r (a.put o.dst v) w
  | (o, false) :: r, a, w => if Region.wanted o (yielded ops a.tmps) then o.wp P a w (fun a' w' => Ext w w' ∧ wpOrgL P ops Q r a' w') Q ∨ (o.asks P a w ∧ LetsOut Q) else wpOrgL P ops Q r (a.put o.dst undef) w
theorem wpOrg_of_L (ops : Array Oper) : ∀ (l : List (Nat × Bool)) (a : Act) (w : World), (l.all fun x => decide (x.1 < ops.size)) = true →
    wpOrgL P ops Q (pickOrs ops.toList l) a w → wpOrg P ops Q l a w
  | [], _, _, _, h => h
  | (i, b) :: r, a, w, hl, h => by
    simp only [List.all_cons, Bool.and_eq_true, decide_eq_true_eq] at hl
    have ho : ops.toList[i]? = some ops[i] := by simp [hl.1]
    have ho' : ops[i]? = some ops[i] := by simp [hl.1]
    rw [pickOrs, ho] at h
    cases b with
    | true =>
      obtain ⟨v, hy, hr⟩ := h
      exact ⟨_, v, ho', hy, wpOrg_of_L ops r _ _ hl.2 hr⟩
    | false =>
      show wpOp P ops Q i (fun a' w' => Ext w w' ∧ wpOrg P ops Q r a' w') a w
      have h2 : wpOp P ops Q i (fun a' w' => Ext w w' ∧ wpOrgL P ops Q (pickOrs ops.toList r) a' w') a w := by
        unfold wpOp
        rw [ho']
        show if _ then _ else _
        have h1 : (if Region.wanted ops[i] (yielded ops a.tmps) then (ops[i]).wp P a w (fun a' w' => Ext w w' ∧ wpOrgL P ops Q (pickOrs ops.toList r) a' w') Q ∨ ((ops[i]).asks P a w ∧ LetsOut Q) else wpOrgL P ops Q (pickOrs ops.toList r) (a.put (ops[i]).dst undef) w) := h
        split
        · rename_i hw; rw [if_pos hw] at h1; exact h1
        · rename_i hw; rw [if_neg hw] at h1; exact ⟨Ext.refl w, h1⟩
      exact wpOp_mono (fun a' w' h' => ⟨h'.1, wpOrg_of_L ops r _ _ hl.2 h'.2⟩) h2
theorem org_pure {o : Oper} {r : List (Oper × Bool)} {a : Act} {w : World} {v : Value} (hw : Region.wanted o (yielded ops a.tmps) = true)
    (hy : ∀ w', Ext w w' → (execOp a.eval o).run P w' = .ok (.value v) w') (h : wpOrgL P ops Q r (a.put o.dst v) w) : wpOrgL P ops Q ((o, true) :: r) a w :=
  ⟨v, .inl ⟨hw, hy⟩, h⟩
theorem org_skip {o : Oper} {r : List (Oper × Bool)} {a : Act} {w : World} (hw : Region.wanted o (yielded ops a.tmps) = false)
    (h : wpOrgL P ops Q r (a.put o.dst undef) w) : wpOrgL P ops Q ((o, true) :: r) a w :=
  ⟨undef, .inr ⟨hw, rfl⟩, h⟩
theorem org_step {o : Oper} {r : List (Oper × Bool)} {a : Act} {w : World} (hw : Region.wanted o (yielded ops a.tmps) = true)
    (h : ∀ K : Act → World → Prop, (∀ a w', Ext w w' ∧ wpOrgL P ops Q r a w' → K a w') → o.wp P a w K Q) : wpOrgL P ops Q ((o, false) :: r) a w := by
  have := h _ (fun _ _ h => h)
  show if _ then _ else _
  rw [if_pos hw]
  exact .inl this
theorem org_pass {o : Oper} {r : List (Oper × Bool)} {a : Act} {w : World} (hw : Region.wanted o (yielded ops a.tmps) = false)
    (h : wpOrgL P ops Q r (a.put o.dst undef) w) : wpOrgL P ops Q ((o, false) :: r) a w := by
  show if _ then _ else _
  rw [if_neg (by rw [hw]; simp)]
  exact h
/-- The region is shown not to panic. -/
theorem wp_region_org {id : Nat} {a : Act} {w : World} {lo : List Oper} (l : List (Nat × Bool)) (hm : P.follows .mixedOrders = true) (hs : Region.noSelect lo.toArray = true)
    (hB : (decide (l.length ≤ lo.toArray.size) && (orsB .any lo.toArray l (Array.replicate lo.toArray.size false) && l.all fun x => decide (x.1 < lo.toArray.size))) = true)
    (h : wpOrgL P lo.toArray (NoPanic Q) (pickOrs lo l) a w.drew) : (Code.region id lo.toArray true).wp P Q a w := by
  simp only [Bool.and_eq_true, decide_eq_true_eq] at hB
  exact wp_region_noPanic (wp_region_held_drew (S := Ext w.drew) hm (Ext.refl _) fun _ => wpAnyH_of_org hs (fun _ _ _ _ _ h => h) l _ _ _ _ hB.1 hB.2.1 (wpOrg_of_L _ _ _ _ hB.2.2 h))
theorem org_nil {a : Act} {w : World} (h : Q .normal a w) : wpOrgL P ops (NoPanic Q) [] a w := h
end
/-- The drawn regions of a body, by number. -/
def regs : Code → List (Nat × Array Oper)
  | .region id ops _ => [(id, ops)]
  | .seq a b => regs a ++ regs b
  | .block _ a => regs a
  | .loop a => regs a
  | .cond _ a b => regs a ++ regs b
  | _ => []
def regOf (c : Option Code) (id : Nat) : Array Oper :=
  match c with
  | some c => match (regs c).find? fun x => x.1 == id with
    | some x => x.2
    | none => #[]
  | none => #[]
/-- The check of an order, for a theorem of its own. -/
def orgB (l : List (Nat × Bool)) (q : Array Oper) : Bool :=
  decide (l.length ≤ q.size) && (orsB .any q l (Array.replicate q.size false) && l.all fun x => decide (x.1 < q.size))
theorem wp_region_orgc {P : Program} {Q : Exit → Act → World → Prop} {id : Nat} {a : Act} {w : World} {lo : List Oper} (l : List (Nat × Bool)) (q : Array Oper) (hq : orgB l q = true) (he : lo.toArray = q) (hm : P.follows .mixedOrders = true) (hs : Region.noSelect lo.toArray = true)
    (h : wpOrgL P lo.toArray (NoPanic Q) (pickOrs lo l) a w.drew) : (Code.region id lo.toArray true).wp P Q a w :=
  wp_region_org l hm hs (by rw [he]; exact hq) h
end Go.Proofs.YtlidoikpfodpeaaDoor
/- Rows of sums in memory: thirty-two cells a sum; a sum loaded, a row of one made, rows put behind, cut. No condition. -/
namespace Go.Proofs.YtlidoikpfodpeaaDoor
open Go.RowKit
def encU (x : Su) : List Value := x.1.map u8v
theorem encU_len (x : Su) : (encU x).length = 32 := by unfold encU; rw [List.length_map]; exact x.2
theorem encU_one (x : Su) : ∀ v ∈ encU x, v.oneCell' = true := fun v hv => by
  obtain ⟨y, _, rfl⟩ := List.mem_map.1 hv; rfl
theorem encU_all (x : Su) : (encU x).toArray.all (·.oneCell') = true := u8v_one _
theorem encU_size (x : Su) : (encU x).toArray.size = 32 := by simpa using encU_len x
def rowU (L : List Su) : List Value := L.flatMap encU
theorem rowU_len : ∀ L : List Su, (rowU L).length = L.length * 32
  | [] => rfl
  | x :: L => by
    have h : rowU (x :: L) = encU x ++ rowU L := rfl
    rw [h, List.length_append, encU_len, rowU_len L, List.length_cons]; omega
theorem rowU_app (A B : List Su) : rowU (A ++ B) = rowU A ++ rowU B := List.flatMap_append
theorem rowU_one (x : Su) : rowU [x] = encU x := by unfold rowU; simp
theorem rowU_take (L : List Su) (k : Nat) : (rowU L).take (k * 32) = rowU (L.take k) := by
  by_cases h : k ≤ L.length
  · conv => lhs; rw [← List.take_append_drop k L, rowU_app]
    rw [List.take_append_of_le_length (by rw [rowU_len, List.length_take]; omega), List.take_of_length_le (by rw [rowU_len, List.length_take]; omega)]
  · rw [List.take_of_length_le (by rw [rowU_len]; omega), List.take_of_length_le (by omega)]
theorem rowU_drop (L : List Su) (k : Nat) : (rowU L).drop (k * 32) = rowU (L.drop k) := by
  by_cases h : k ≤ L.length
  · conv => lhs; rw [← List.take_append_drop k L, rowU_app]
    rw [List.drop_append_of_le_length (by rw [rowU_len, List.length_take]; omega), List.drop_of_length_le (by rw [rowU_len, List.length_take]; omega), List.nil_append]
  · rw [List.drop_of_length_le (by rw [rowU_len]; omega), List.drop_of_length_le (by omega)]; rfl
theorem rowU_get (L : List Su) (i : Nat) (h : i < L.length) (j : Nat) (hj : j < 32) : (rowU L)[i * 32 + j]? = (encU L[i])[j]? := by
  have e : rowU L = rowU (L.take i) ++ (encU L[i] ++ rowU (L.drop (i + 1))) := by
    conv => lhs; rw [← List.take_append_drop i L, List.drop_eq_getElem_cons h, rowU_app]
    rfl
  have hl : (rowU (L.take i)).length = i * 32 := by rw [rowU_len, List.length_take]; omega
  rw [e, List.getElem?_append_right (by omega), hl, List.getElem?_append_left (by rw [encU_len]; omega)]
  congr 1; omega
theorem rowU_one' (L : List Su) : ∀ v ∈ rowU L, v.oneCell' = true := fun v hv => by
  obtain ⟨x, _, hx⟩ := List.mem_flatMap.1 hv
  exact encU_one x v hx
/-- A type of slices of sums, the type of its sums. -/
def ElT (T E : TypeId) : Prop := Tryd.prog.underlying T = some (.slice E) ∧ Tryd.prog.underlying E = some (.array 32 5) ∧ (Tryd.prog.info? E).map (fun i => (i.zero, i.size, i.bytes)) = some (some (.agg (Array.replicate 32 (.int .u8 0))), 32, 32)
/-- A slice in memory reads as these sums. -/
def Ss (w : World) (b : Nat) (q : Option Addr) (L : List Su) : Prop := Sees w b q (rowU L)
theorem Ss.el {w : World} {b : Nat} {q : Option Addr} {L : List Su} (h : Ss w b q L) {i : Nat} (hi : i < L.length) :
    ∃ a : Addr, q = some a ∧ a.block < b ∧ ∀ w', Below b w w' → ∀ j u, (encU L[i])[j]? = some u → w'.cell? ((a.add (i * 32)).add j) = some u := by
  obtain ⟨a, rfl, hb, hc⟩ := h.get (by rw [rowU_len]; omega)
  refine ⟨a, rfl, hb, fun w' hw j u hu => ?_⟩
  have hj : j < 32 := by have := (List.getElem?_eq_some_iff.1 hu).1; rwa [encU_len] at this
  rw [add_add, hw.cell (by rw [add_block]; exact hb)]
  exact hc _ u (by rw [rowU_get L i hi j hj]; exact hu)
/-- The value reads as these sums. -/
def Us (w : World) (v : Value) (L : List Su) : Prop := ∃ q c, v = .slice q L.length c ∧ L.length ≤ c ∧ (q = none → c = 0) ∧ Sees w w.heap.size q (rowU L)
theorem Us.keep {w w' : World} {v : Value} {L : List Su} (h : Us w v L) (hb : Below w.heap.size w w') : Us w' v L := by
  obtain ⟨q, c, h1, h2, h3, h4⟩ := h
  exact ⟨q, c, h1, h2, h3, (h4.keep hb).more hb.size⟩
theorem Us.drew {w : World} {v : Value} {L : List Su} (h : Us w v L) : Us w.drew v L := h
theorem Us.nil (w : World) : Us w (.slice none 0 0) [] := ⟨none, 0, rfl, Nat.le_refl _, fun _ => rfl, Sees.nil _ _ _⟩
/-- A row of the call's own. -/
def OwnU (w : World) (base : Nat) (E : TypeId) (v : Value) (L : List Su) : Prop := w.ownsRow base E 32 v L.length (rowU L)
theorem OwnU.nil (w : World) (base : Nat) (E : TypeId) : OwnU w base E (.slice none 0 0) [] := World.ownsRow_nil w base E 32
theorem OwnU.empty (w : World) (base : Nat) (E : TypeId) (hb : base ≤ w.heap.size) : OwnU (w.alloc (.cells #[] E)) base E (.slice (some ⟨w.heap.size, 0, none⟩) 0 0) [] :=
  World.ownsRow_made w #[] 0 hb (Nat.zero_le _) (by simp)
theorem OwnU.base {w : World} {base : Nat} {E : TypeId} {v : Value} {L : List Su} (h : OwnU w base E v L) : ∀ j, Value.ownBlock v = some j → base ≤ j := fun j hj => (World.ownsRow.lt h j hj).1
theorem OwnU.keep {w w' : World} {base : Nat} {E : TypeId} {v : Value} {L : List Su} (h : OwnU w base E v L) (hb : Below w.heap.size w w') : OwnU w' base E v L := by
  rcases h.2 with ⟨rfl, h0⟩ | ⟨g', cap, cur, rfl, hb', hg', h1, h2, h3, h4⟩
  · exact ⟨h.1, .inl ⟨rfl, h0⟩⟩
  · exact ⟨h.1, .inr ⟨g', cap, cur, rfl, hb', (hb.block g' (Array.getElem?_eq_some_iff.1 hg').1).trans hg', h1, h2, h3, h4⟩⟩
theorem OwnU.less {w : World} {b base : Nat} {E : TypeId} {v : Value} {L : List Su} (h : OwnU w base E v L) (hb : b ≤ base) : OwnU w b E v L := by
  rcases h.2 with ⟨rfl, h0⟩ | ⟨g', cap, cur, rfl, hb', r⟩
  · exact ⟨h.1, .inl ⟨rfl, h0⟩⟩
  · exact ⟨h.1, .inr ⟨g', cap, cur, rfl, by omega, r⟩⟩
theorem OwnU.us {w : World} {base : Nat} {E : TypeId} {v : Value} {L : List Su} (h : OwnU w base E v L) : Us w v L := by
  rcases h.2 with ⟨rfl, h0⟩ | ⟨g, cap, cur, rfl, hb, hg, h1, _⟩
  · have : L = [] := List.eq_nil_of_length_eq_zero h0
    subst this
    exact Us.nil w
  · exact ⟨_, cap, rfl, h1, fun e => (by cases e), fun _ => ⟨_, rfl, (Array.getElem?_eq_some_iff.1 hg).1, World.ownsRow.cells h (g := g) rfl⟩⟩
section
variable {P : Program}
theorem load_su {o : Oper} {ev : Operand → Value} {w : World} (E : TypeId) (x : Operand) (ho : o.op = .load E x) (p : Addr) (hx : ev x = .pointer (some p)) (hu : Tryd.prog.underlying E = some (.array 32 5)) (hi : (Tryd.prog.info? E).map (·.size) = some 32)
    (s : Su) (hc : ∀ j u, (encU s)[j]? = some u → w.cell? (p.add j) = some u) : (execOp ev o).run Tryd.prog w = .ok (.value (.agg (encU s).toArray)) w := by
  have hl := run_loadCells_list (P := Tryd.prog) w p (encU s) hc
  rw [encU_len] at hl
  have hrun : (loadVar E p).run Tryd.prog w = .ok (.agg (encU s).toArray) w := by
    cases hq : Tryd.prog.info? E with
    | none => simp [hq] at hi
    | some i =>
      have hs : i.size = 32 := by simpa [hq] using hi
      have hagg : (isAgg E).run Tryd.prog w = .ok true w := by
        unfold isAgg
        rw [Sem.run_bind, run_underlying hu w]
        simp
      simp only [loadVar, sizeOf, typeInfo, Sem.run_bind, hagg, Result.andThen_ok, if_true]
      simp [hq, hs, hl]
  unfold execOp
  simp only [ho, hx, Instr.loadAt, Instr.sureAddr, Sem.run_bind, Sem.run_pure, Result.andThen_ok, hrun]
end
section
variable {ops : Array Oper} {rest : List Oper} {o : Oper} {a : Act} {w : World} {Q : Exit → Act → World → Prop} {K : Act → World → Prop}
theorem wp_load_su (E : TypeId) (x : Operand) (ho : o.op = .load E x) (p : Addr) (hx : a.eval x = .pointer (some p)) (hu : Tryd.prog.underlying E = some (.array 32 5)) (hi : (Tryd.prog.info? E).map (·.size) = some 32)
    (s : Su) (hc : ∀ j u, (encU s)[j]? = some u → w.cell? (p.add j) = some u) (h : K (a.put o.dst (.agg (encU s).toArray)) w) : o.wp Tryd.prog a w K Q := by
  unfold Oper.wp
  rw [load_su E x ho p hx hu hi s hc]
  exact h
theorem wpList_load_su (hgd : o.guard = none) (E : TypeId) (x : Operand) (ho : o.op = .load E x) (p : Addr) (hx : a.eval x = .pointer (some p)) (hu : Tryd.prog.underlying E = some (.array 32 5)) (hi : (Tryd.prog.info? E).map (·.size) = some 32)
    (s : Su) (hc : ∀ j u, (encU s)[j]? = some u → w.cell? (p.add j) = some u) (h : wpList Tryd.prog ops Q rest (a.put o.dst (.agg (encU s).toArray)) w) : wpList Tryd.prog ops Q (o :: rest) a w :=
  wpList_plain hgd fun _ hK => wp_load_su E x ho p hx hu hi s hc (hK _ _ h)
theorem wpList_load_suOn (hw : Region.wanted o (yielded ops a.tmps) = true) (E : TypeId) (x : Operand) (ho : o.op = .load E x) (p : Addr) (hx : a.eval x = .pointer (some p)) (hu : Tryd.prog.underlying E = some (.array 32 5)) (hi : (Tryd.prog.info? E).map (·.size) = some 32)
    (s : Su) (hc : ∀ j u, (encU s)[j]? = some u → w.cell? (p.add j) = some u) (h : wpList Tryd.prog ops Q rest (a.put o.dst (.agg (encU s).toArray)) w) : wpList Tryd.prog ops Q (o :: rest) a w :=
  wpList_step fun K hK => by rw [if_pos hw]; exact wp_load_su E x ho p hx hu hi s hc (hK _ _ h)
def aggU (s : Su) : Value := .agg (encU s).toArray
theorem fill_many (L : List Su) (cells : Array Value) (hc : cells.size = L.length * 32) :
    Instr.fill (fun i => some (i * 32, 32)) cells (((L.map aggU).zipIdx 0).map fun x => (x.2, x.1)) = some (rowU L).toArray := by
  obtain ⟨r, h1, h2, h3⟩ := Great.fill_dense (s := 32) (by decide) (L.map aggU) 0 cells (fun v hv => by
    obtain ⟨x, _, rfl⟩ := List.mem_map.1 hv
    exact encU_size x) (by rw [List.length_map, hc, Nat.zero_add]; exact Nat.le_refl _)
  rw [h1]
  congr 1
  have hs : r.size = (rowU L).toArray.size := by rw [h2, hc]; simp [rowU_len]
  refine Array.ext hs fun k hk1 hk2 => ?_
  have h4 := h3 k
  have hk : k < L.length * 32 := by rw [h2, hc] at hk1; exact hk1
  have hi : k / 32 < L.length := by omega
  rw [if_pos ⟨by omega, by rw [List.length_map, Nat.zero_add]; exact hk⟩, Nat.sub_zero, List.getElem?_map, List.getElem?_eq_getElem hi, Option.map_some, Option.bind_some] at h4
  have h5 := rowU_get L (k / 32) hi (k % 32) (Nat.mod_lt _ (by decide))
  rw [show k / 32 * 32 + k % 32 = k by omega] at h5
  have h6 : (aggU L[k / 32]).cells[k % 32]? = (encU L[k / 32])[k % 32]? := by simp [aggU, Value.cells]
  rw [h6, ← h5, Array.getElem?_eq_getElem hk1] at h4
  have h7 : (rowU L)[k]? = some ((rowU L).toArray[k]) := by simp
  rw [h7] at h4
  exact Option.some.inj h4
theorem fill_one (cells : Array Value) (hc : cells.size = 32) (s : Su) : Instr.fill (fun i => some (i * 32, 32)) cells [(0, aggU s)] = some (encU s).toArray := by
  have := fill_many [s] cells (by simpa using hc)
  rw [rowU_one] at this
  exact this
/-- A row of some sums, a literal. -/
theorem wp_lit_su (T E : TypeId) (hT : ElT T E) (n : Nat) (parts : Array (Nat × Operand)) (ho : o.op = .buildSlice T n parts) (L : List Su) (hn : L.length = n) (h0 : 0 < n) (h9 : n ≤ 1000)
    (hx : (parts.map fun (i, x) => (i, a.eval x)).toList = ((L.map aggU).zipIdx 0).map fun x => (x.2, x.1))
    (h : K (a.put o.dst (.slice (some ⟨w.heap.size, 0, none⟩) n n)) (w.alloc (.cells (rowU L).toArray E))) : o.wp Tryd.prog a w K Q := by
  subst hn
  obtain ⟨i0, hi, hz0, hz1, hz2⟩ := info_parts hT.2.2
  refine wp_buildSlice T E L.length parts ho (rowU L).toArray i0 _ hT.1 hi hz0 (by rw [hz1]; omega) (by rw [hz1]; omega) ?_ h
  rw [hx, hz1]
  exact fill_many L _ (by simp)
theorem wpList_lit_su (hgd : o.guard = none) (T E : TypeId) (hT : ElT T E) (n : Nat) (parts : Array (Nat × Operand)) (ho : o.op = .buildSlice T n parts) (L : List Su) (hn : L.length = n) (h0 : 0 < n) (h9 : n ≤ 1000)
    (hx : (parts.map fun (i, x) => (i, a.eval x)).toList = ((L.map aggU).zipIdx 0).map fun x => (x.2, x.1))
    (h : wpList Tryd.prog ops Q rest (a.put o.dst (.slice (some ⟨w.heap.size, 0, none⟩) n n)) (w.alloc (.cells (rowU L).toArray E))) : wpList Tryd.prog ops Q (o :: rest) a w :=
  wpList_plain hgd fun _ hK => wp_lit_su T E hT n parts ho L hn h0 h9 hx (hK _ _ h)
/-- A row of one sum. -/
theorem wp_one_su (T E : TypeId) (hT : ElT T E) (x : Operand) (ho : o.op = .buildSlice T 1 #[(0, x)]) (s : Su) (hx : a.eval x = .agg (encU s).toArray)
    (h : K (a.put o.dst (.slice (some ⟨w.heap.size, 0, none⟩) 1 1)) (w.alloc (.cells (encU s).toArray E))) : o.wp Tryd.prog a w K Q := by
  obtain ⟨i0, hi, hz0, hz1, hz2⟩ := info_parts hT.2.2
  refine wp_buildSlice T E 1 _ ho (encU s).toArray i0 _ hT.1 hi hz0 (by rw [hz1]; omega) (by rw [hz1]; omega) ?_ h
  rw [hz1]
  simp only [List.map_toArray, List.map_cons, List.map_nil, hx]
  exact fill_one _ (by simp) s
theorem wpList_one_su (hgd : o.guard = none) (T E : TypeId) (hT : ElT T E) (x : Operand) (ho : o.op = .buildSlice T 1 #[(0, x)]) (s : Su) (hx : a.eval x = .agg (encU s).toArray)
    (h : wpList Tryd.prog ops Q rest (a.put o.dst (.slice (some ⟨w.heap.size, 0, none⟩) 1 1)) (w.alloc (.cells (encU s).toArray E))) : wpList Tryd.prog ops Q (o :: rest) a w :=
  wpList_plain hgd fun _ hK => wp_one_su T E hT x ho s hx (hK _ _ h)
theorem Ss.one {w : World} {g : Nat} {E : TypeId} {s : Su} {b : Nat} (h : Has w g E (encU s)) (hb : g < b) : Sees w b (some ⟨g, 0, none⟩) (rowU [s]) := by
  rw [rowU_one]; exact Sees.of_has h hb
theorem run_none_su (T E : TypeId) (hT : ElT T E) (w : World) : (Instr.buildSlice T 0 #[]).run Tryd.prog w = .ok (.slice (some ⟨w.heap.size, 0, none⟩) 0 0) (w.alloc (.cells #[] E)) := by
  obtain ⟨i0, hi, hz0, hz1, hz2⟩ := info_parts hT.2.2
  simp [Instr.buildSlice, run_underlying hT.1, sizeOf, typeInfo, hi, newRow, Instr.fill]
  rw [show Array.range 0 = #[] by kernel_rfl, Array.map_empty]
theorem wp_none_su (T E : TypeId) (hT : ElT T E) (ho : o.op = .buildSlice T 0 #[])
    (h : K (a.put o.dst (.slice (some ⟨w.heap.size, 0, none⟩) 0 0)) (w.alloc (.cells #[] E))) : o.wp Tryd.prog a w K Q := by
  unfold Oper.wp execOp
  simp only [ho, Sem.run_bind]
  rw [Array.map_empty, run_none_su T E hT]
  exact h
/-- Sums put behind a row of the call's own. -/
theorem wp_append_su (T E : TypeId) (hT : ElT T E) (s x : Operand) (ho : o.op = .call { callee := .builtin .append, args := #[s, x], argTypes := #[T, T] })
    (base : Nat) (v : Value) (L : List Su) (hs : a.eval s = v) (hown : OwnU w base E v L)
    (q : Option Addr) (M : List Su) (m cap b : Nat) (hm : M.length = m) (hx : a.eval x = .slice q m cap) (hq : q = none → cap = 0) (hl : Sees w b q (rowU M))
    (hn : L.length + m ≤ 4000000) (hbase : base ≤ w.heap.size)
    (h : ∀ v' w', OwnU w' base E v' (L ++ M) → w.grownBy w' v.ownBlock → K (a.put o.dst v') w') : o.wp Tryd.prog a w K Q := by
  subst hm
  obtain ⟨i0, hi, hz0, hz1, hz2⟩ := info_parts hT.2.2
  have fin : ∀ v' w', w'.ownsRow base E 32 v' (L.length + M.length) (rowU L ++ rowU M) → OwnU w' base E v' (L ++ M) := fun v' w' h1 => by
    unfold OwnU; rw [List.length_append, rowU_app]; exact h1
  have hbytes : (L.length + M.length) * 32 ≤ 140737488355328 := Nat.le_trans (Nat.mul_le_mul hn (Nat.le_refl 32)) (by decide)
  rcases q with _ | ad
  · have hl0 : M = [] := by
      rcases M with _ | ⟨y, M⟩
      · rfl
      · obtain ⟨a, h1, _⟩ := hl.get (by rw [rowU_len, List.length_cons]; omega)
        cases h1
    subst hl0
    obtain rfl := hq rfl
    have hrun := run_append_owned_none (P := Tryd.prog) (w := w) base T o.type E i0 32 hT.1 hi v L.length (rowU L) hown
    have hx' : a.eval x = .slice none 0 0 := hx
    unfold Oper.wp
    simp [execOp, ho, resolve, invoke, builtin, hs, hx', hrun, Result.andThen]
    exact h v w (by simpa using hown) ⟨rfl, rfl, rfl, Nat.le_refl _, fun _ _ _ => rfl⟩
  · by_cases hl0 : M = []
    · subst hl0
      refine wp_append_own w s x T ho base E i0 _ 32 32 hT.1 hi hz0 hz1 hz2 rfl (by decide) v L.length (rowU L) hs hown ad 0 cap [] hx rfl (fun j u hj => by simp at hj) (fun u hu => by cases hu) (by unfold maxLen; simp at hn; omega) hbytes hbase (fun v' w' h1 h2 _ => ?_)
      exact h v' w' (fin v' w' (by simpa [rowU] using h1)) h2
    · refine wp_append_own w s x T ho base E i0 _ 32 32 hT.1 hi hz0 hz1 hz2 rfl (by decide) v L.length (rowU L) hs hown ad M.length cap (rowU M) hx (rowU_len M) (fun j u hj => ?_) (fun u hu => rowU_one' M u hu) (by unfold maxLen; omega) hbytes hbase (fun v' w' h1 h2 _ => ?_)
      · obtain ⟨a', h1, _, h3⟩ := hl.get (by have := (List.getElem?_eq_some_iff.1 hj).1; omega)
        cases h1
        exact h3 j u hj
      · exact h v' w' (fin v' w' h1) h2
theorem wpList_append_su (hgd : o.guard = none) (T E : TypeId) (hT : ElT T E) (s x : Operand) (ho : o.op = .call { callee := .builtin .append, args := #[s, x], argTypes := #[T, T] })
    (base : Nat) (v : Value) (L : List Su) (hs : a.eval s = v) (hown : OwnU w base E v L)
    (q : Option Addr) (M : List Su) (m cap b : Nat) (hm : M.length = m) (hx : a.eval x = .slice q m cap) (hq : q = none → cap = 0) (hl : Sees w b q (rowU M))
    (hn : L.length + m ≤ 4000000) (hbase : base ≤ w.heap.size)
    (h : ∀ v' w', OwnU w' base E v' (L ++ M) → Below base w w' → wpList Tryd.prog ops Q rest (a.put o.dst v') w') : wpList Tryd.prog ops Q (o :: rest) a w :=
  wpList_plain hgd fun _ hK => wp_append_su T E hT s x ho base v L hs hown q M m cap b hm hx hq hl hn hbase fun v' w' h1 h2 => hK _ _ (h v' w' h1 ((Below.refl base w).grown h2 hbase (fun k hk => hown.base k hk)))
end
theorem cut_su (T E : TypeId) (hT : ElT T E) (q : Option Addr) (n c k : Nat) (hk : k ≤ n) (w : World) :
    (Instr.slice T (.slice q n c) (some (.int .i64 (k : Int))) none none).run Tryd.prog w = .ok (.slice (if c = k then q else q.map (·.add (k * 32))) (n - k) (c - k)) w := by
  obtain ⟨i0, hi, hz0, hz1, hz2⟩ := info_parts hT.2.2
  simp [Instr.slice, run_underlying hT.1, Instr.sliceBounds, Instr.sliceBound, asIntOf, sizeOf, typeInfo, hi, hz1]
  intro hc
  omega
theorem head_su (T E : TypeId) (hT : ElT T E) (q : Option Addr) (n c k : Nat) (hk : k ≤ c) (w : World) :
    (Instr.slice T (.slice q n c) none (some (.int .i64 (k : Int))) none).run Tryd.prog w = .ok (.slice q k c) w := by
  obtain ⟨i0, hi, hz0, hz1, hz2⟩ := info_parts hT.2.2
  have e : q.map (fun a : Addr => a.add 0) = q := by cases q <;> simp [Addr.add]
  simp [Instr.slice, run_underlying hT.1, Instr.sliceBounds, Instr.sliceBound, asIntOf, sizeOf, typeInfo, hi, e]
  intro hc
  omega
theorem Sees.cutU {w : World} {b : Nat} {q : Option Addr} {L : List Su} {c k : Nat} (h : Sees w b q (rowU L)) (hc : L.length ≤ c) : Sees w b (if c = k then q else q.map (·.add (k * 32))) (rowU (L.drop k)) := fun hl => by
  have hk : k < L.length := by rw [rowU_len, List.length_drop] at hl; omega
  obtain ⟨a, rfl, hb, hx⟩ := h.get (by rw [rowU_len]; omega)
  rw [if_neg (by omega)]
  refine ⟨a.add (k * 32), rfl, by rw [add_block]; exact hb, fun j u hu => ?_⟩
  rw [add_add]
  exact hx _ u (by rw [← hu, ← rowU_drop, List.getElem?_drop])
theorem cutU_none {q : Option Addr} {c k n : Nat} (hq : q = none → c = 0) : (if c = k then q else q.map (·.add n)) = none → c - k = 0 := by
  split
  · intro _; omega
  · intro h; have := hq (by simpa using h); omega
end Go.Proofs.YtlidoikpfodpeaaDoor
/- '==' and '!=' of two sums; a row of sums written in place: one stored, the rest cleared. No condition. -/
namespace Go.Proofs.YtlidoikpfodpeaaDoor
open Go.RowKit
section
variable {P : Program}
theorem eqIn_su (E : TypeId) (hu : Tryd.prog.underlying E = some (.array 32 5)) (s t : Su) (w : World) : (Op.equalIn 10000 E (.agg (encU s).toArray) (.agg (encU t).toArray)).run Tryd.prog w = .ok (decide (s = t)) w := by
  have h := arr_eqlU E hu s.1 t.1 s.2 t.2 w
  rw [run_eql_struct] at h
  have e : decide (s.1 = t.1) = decide (s = t) := by
    by_cases hst : s = t
    · subst hst; simp
    · rw [decide_eq_false hst, decide_eq_false (fun h => hst (Subtype.ext h))]
  rw [e] at h
  have h' : ((Op.equalIn 10000 E (.agg (encU s).toArray) (.agg (encU t).toArray)).run Tryd.prog w).andThen (fun b w' => Result.ok (Value.bool b) w') = .ok (.bool (decide (s = t))) w := h
  cases hr : (Op.equalIn 10000 E (.agg (encU s).toArray) (.agg (encU t).toArray)).run Tryd.prog w <;> rw [hr] at h' <;> simp [Result.andThen] at h' <;> simp_all
theorem eql_su {o : Oper} {ev : Operand → Value} {w : World} (E : TypeId) (x y : Operand) (E2 : TypeId) (ho : o.op = .binOp .eql E x y E2) (s t : Su) (hx : ev x = .agg (encU s).toArray) (hy : ev y = .agg (encU t).toArray)
    (hu : Tryd.prog.underlying E = some (.array 32 5)) (hg : Tryd.prog.eqGuardType Tryd.prog.depth E = false) : (execOp ev o).run Tryd.prog w = .ok (.value (.bool (decide (s = t)))) w := by
  have h1 := run_eqGuard_agg w .eql E x y (encU s).toArray (encU t).toArray hg
  have h2 := eqIn_su E hu s t w
  unfold execOp
  simp [ho, hx, hy, h1, h2, run_eql_struct]
theorem neq_su {o : Oper} {ev : Operand → Value} {w : World} (E : TypeId) (x y : Operand) (E2 : TypeId) (ho : o.op = .binOp .neq E x y E2) (s t : Su) (hx : ev x = .agg (encU s).toArray) (hy : ev y = .agg (encU t).toArray)
    (hu : Tryd.prog.underlying E = some (.array 32 5)) (hg : Tryd.prog.eqGuardType Tryd.prog.depth E = false) : (execOp ev o).run Tryd.prog w = .ok (.value (.bool (!decide (s = t)))) w := by
  have h1 := run_eqGuard_agg w .neq E x y (encU s).toArray (encU t).toArray hg
  have h2 := eqIn_su E hu s t w
  unfold execOp
  simp [ho, hx, hy, h1, h2, run_neq_struct]
end
/-- The row's head: these sums; what stands behind them. -/
def RowAt (w : World) (g : Nat) (E : TypeId) (dk : Array Su) (rest : List Value) : Prop := Has w g E (rowU dk.toList ++ rest)
theorem add_lit' (g o j : Nat) : (Addr.add ⟨g, o, none⟩ j) = ⟨g, o + j, none⟩ := by unfold Addr.add; split <;> simp_all
theorem RowAt.el {w : World} {g : Nat} {E : TypeId} {dk : Array Su} {rest : List Value} (h : RowAt w g E dk rest) (i : Nat) (hi : i < dk.size) (o : Nat) (ho : o = i * 32) : ∀ j u, (encU dk[i]!)[j]? = some u → w.cell? ((⟨g, o, none⟩ : Addr).add j) = some u := fun j u hu => by
  subst ho
  have hj : j < 32 := by have := (List.getElem?_eq_some_iff.1 hu).1; rwa [encU_len] at this
  have hil : i < dk.toList.length := by simpa using hi
  rw [add_lit']
  refine Has.cellv h ?_
  rw [List.getElem?_append_left (by rw [rowU_len]; omega), rowU_get dk.toList i hil j hj, ← hu, getElem!_pos dk i hi]
  simp
theorem rowU_set (L : List Su) (k : Nat) (s : Su) (hk : k < L.length) : rowU (L.set k s) = (rowU L).take (k * 32) ++ encU s ++ (rowU L).drop (k * 32 + 32) := by
  rw [rowU_take, show k * 32 + 32 = (k + 1) * 32 by omega, rowU_drop, List.set_eq_take_append_cons_drop, if_pos hk, rowU_app, List.append_assoc]
  rfl
theorem RowAt.put {w : World} {g : Nat} {E : TypeId} {dk : Array Su} {rest : List Value} (h : RowAt w g E dk rest) (k : Nat) (hk : k < dk.size) (s : Su) : RowAt (w.setCells g (k * 32) (encU s)) g E (dk.setIfInBounds k s) rest := by
  have hl : k < dk.toList.length := by simpa using hk
  have hrl := rowU_len dk.toList
  have hm := Has.mid (encU s) (k * 32) w _ h (by rw [List.length_append, hrl, encU_len]; omega)
  unfold RowAt
  have e : (dk.setIfInBounds k s).toList = dk.toList.set k s := by simp
  rw [e, rowU_set _ _ _ hl]
  rw [encU_len, List.take_append_of_le_length (by rw [hrl]; omega), List.drop_append_of_le_length (by rw [hrl]; omega)] at hm
  simpa [List.append_assoc] using hm
theorem RowAt.isIn {w : World} {g : Nat} {E : TypeId} {dk : Array Su} {rest : List Value} (h : RowAt w g E dk rest) (o n : Nat) (hn : o + n ≤ dk.size * 32) : ∀ j, j < n → (w.cell? ⟨g, o + j, none⟩).isSome = true ∧ w.frozen? ⟨g, o + j, none⟩ = false := fun j hj =>
  ⟨by rw [Has.cell h, List.getElem?_eq_getElem (by rw [List.length_append, rowU_len]; simp; omega)]; rfl, Has.free h _⟩
theorem store_su {w : World} (E : TypeId) (hi : (Tryd.prog.info? E).map (·.size) = some 32) (g k : Nat) (s : Su) {dk : Array Su} {rest : List Value} {F : TypeId} (h : RowAt w g F dk rest) (hk : k < dk.size) (o : Nat) (ho : o = k * 32) :
    (storeVar E ⟨g, o, none⟩ (.agg (encU s).toArray)).run Tryd.prog w = .ok () (w.setCells g (k * 32) (encU s)) := by
  subst ho
  have hin := h.isIn (k * 32) 32 (by omega)
  have hst := run_storeCells_cells (P := Tryd.prog) g (k * 32) (encU s) 0 w (fun j hj => by rw [Nat.add_zero]; rw [encU_len] at hj; exact (hin j hj).1) (fun j hj => by rw [Nat.add_zero]; rw [encU_len] at hj; exact (hin j hj).2) (encU_one s)
  rw [Nat.add_zero] at hst
  cases hq : Tryd.prog.info? E with
  | none => simp [hq] at hi
  | some i =>
    have hs : i.size = 32 := by simpa [hq] using hi
    have hz := encU_size s
    simp only [storeVar, sizeOf, typeInfo, Sem.run_bind]
    simp [hq, hs, Value.cells, encU_len, hst]
theorem wpList_store_su {ops : Array Oper} {rest : List Oper} {o : Oper} {a : Act} {w : World} {Q : Exit → Act → World → Prop} (hgd : o.guard = none) (E : TypeId) (hi : (Tryd.prog.info? E).map (·.size) = some 32) (x y : Operand) (ho : o.op = .store E x y) (g k : Nat) (p : Nat) (hp : p = k * 32) (hx : a.eval x = .pointer (some ⟨g, p, none⟩))
    (s : Su) (hy : a.eval y = .agg (encU s).toArray) {dk : Array Su} {row : List Value} {F : TypeId} (h : RowAt w g F dk row) (hk : k < dk.size) (hK : wpList Tryd.prog ops Q rest (a.put o.dst undef) (w.setCells g (k * 32) (encU s))) : wpList Tryd.prog ops Q (o :: rest) a w :=
  wpList_plain hgd fun _ hK' => by
    unfold Oper.wp execOp
    simp only [ho, hx, hy, Instr.storeAt, Instr.sureAddr, Sem.run_bind, Sem.run_pure, Result.andThen_ok, store_su E hi g k s h hk p hp]
    exact hK' _ _ hK
def zU : Su := ⟨List.replicate 32 0, by simp⟩
theorem rowU_zero : ∀ n : Nat, rowU (List.replicate n zU) = List.replicate (n * 32) (.int .u8 0)
  | 0 => rfl
  | n + 1 => by
    rw [List.replicate_succ]
    show encU zU ++ rowU (List.replicate n zU) = _
    have h0 : encU zU = List.replicate 32 (.int .u8 0) := by simp [encU, zU, u8v, B]
    rw [rowU_zero n, show (n + 1) * 32 = 32 + n * 32 by omega, h0, List.replicate_append_replicate]
theorem zeroCells_su (n : Nat) : (Builtin.zeroCells (Array.replicate 32 (Value.int .u8 0)) n).toList = List.replicate (n * 32) (.int .u8 0) := by
  unfold Builtin.zeroCells
  apply List.ext_getElem
  · simp
  · intro i h1 h2
    have hm : i % 32 < 32 := Nat.mod_lt _ (by decide)
    simp only [Array.toList_map, Array.toList_range, Array.size_replicate, List.getElem_map, List.getElem_range, List.getElem_replicate]
    rw [getElem!_pos _ _ (by simpa using hm)]
    simp
theorem run_clear_su (T E : TypeId) (hT : ElT T E) (w : World) (g k n c ty : Nat) (hn : 0 < n) {dk : Array Su} {rest : List Value} (h : RowAt w g E dk rest) (hk : k + n ≤ dk.size) (o : Nat) (ho : o = k * 32) :
    (Builtin.clear_ #[T] ty #[.slice (some ⟨g, o, none⟩) n c]).run Tryd.prog w = .ok (.tuple #[]) (w.setCells g (k * 32) (List.replicate (n * 32) (.int .u8 0))) := by
  subst ho
  obtain ⟨i0, hi, hz0, hz1, hz2⟩ := info_parts hT.2.2
  have hin := h.isIn (k * 32) (n * 32) (by omega)
  have hst := run_storeCells_cells (P := Tryd.prog) g (k * 32) (List.replicate (n * 32) (Value.int .u8 0)) 0 w (fun j hj => by rw [Nat.add_zero]; rw [List.length_replicate] at hj; exact (hin j hj).1) (fun j hj => by rw [Nat.add_zero]; rw [List.length_replicate] at hj; exact (hin j hj).2) (fun v hv => by rw [List.eq_of_mem_replicate hv]; rfl)
  rw [Nat.add_zero] at hst
  have hz : (zeroValue E).run Tryd.prog w = .ok (.agg (Array.replicate 32 (.int .u8 0))) w := by simp [zeroValue, typeInfo, hi, hz0]
  have hc : (Value.agg (Array.replicate 32 (Value.int .u8 0))).cells = Array.replicate 32 (Value.int .u8 0) := rfl
  obtain ⟨m, rfl⟩ : ∃ m, n = m + 1 := ⟨n - 1, by omega⟩
  simp [Builtin.clear_, run_underlying hT.1, hz, hc, zeroCells_su, hst]
theorem RowAt.cleared {w : World} {g : Nat} {E : TypeId} {dk : Array Su} {rest : List Value} (h : RowAt w g E dk rest) (k n : Nat) (hk : k + n = dk.size) : ∃ back, RowAt (w.setCells g (k * 32) (List.replicate (n * 32) (.int .u8 0))) g E (dk.toList.take k).toArray back ∧ back.length = n * 32 + rest.length := by
  have hrl := rowU_len dk.toList
  have hl : dk.toList.length = dk.size := by simp
  have hm := Has.mid (List.replicate (n * 32) (Value.int .u8 0)) (k * 32) w _ h (by rw [List.length_append, hrl, List.length_replicate]; omega)
  refine ⟨List.replicate (n * 32) (.int .u8 0) ++ rest, ?_, by simp⟩
  rw [List.length_replicate, List.take_append_of_le_length (by rw [hrl]; omega), rowU_take, List.drop_append, List.drop_of_length_le (by rw [hrl]; omega), List.nil_append, show k * 32 + n * 32 - (rowU dk.toList).length = 0 by rw [hrl]; omega, List.drop_zero] at hm
  unfold RowAt
  rw [← List.append_assoc]
  exact hm
theorem setCells_block {w : World} {g : Nat} : ∀ (vs : List Value) (o : Nat) (b : Nat) (a : World), Below b a w → b ≤ g → Below b a (w.setCells g o vs) := fun vs o _ _ h hg => below_setCells hg vs o w h
end Go.Proofs.YtlidoikpfodpeaaDoor
/- Contracts: a law's arguments as a set (the law's 'row'), package set's rises, Good. Conditions: at most 10^5 sums (Good, rises: fewer than 2^62). -/
namespace Go.Proofs.YtlidoikpfodpeaaDoor
open Go.RowKit
theorem elSet : ElT 26 24 := ⟨Tryd.underlying26, Tryd.underlying24, by kernel_rfl⟩
theorem elSum : ElT 25 24 := ⟨Tryd.underlying25, Tryd.underlying24, by kernel_rfl⟩
theorem elArr : ElT 36 23 := ⟨Tryd.underlying36, Tryd.underlying23, by kernel_rfl⟩
theorem szSum : (Tryd.prog.info? 24).map (·.size) = some 32 := by kernel_rfl
theorem szArr : (Tryd.prog.info? 23).map (·.size) = some 32 := by kernel_rfl
theorem cmpS_any (x y : Su) (w : World) : Calls Tryd.prog 29 #[.agg (encU x).toArray, .agg (encU y).toArray] w fun e w' => e = .returned (.int .i64 (cmpU x y)) ∧ Below w.heap.size w w' := cmp_any x.1 y.1 x.2 y.2 w
set_option maxHeartbeats 4000000 in
set_option maxRecDepth 100000 in
theorem row_any (L : List Su) (q : Option Addr) (c : Nat) (hm : L.length ≤ 100000) (w : World) (hs : Sees w w.heap.size q (rowU L)) :
    Calls Tryd.prog 17 #[.slice q L.length c] w fun e w' => (∃ v, e = .returned v ∧ OwnU w' w.heap.size 24 v L) ∧ Below w.heap.size w w' := by
  have HS := Lib.hid hs
  have HNIL := Lib.hid (OwnU.nil w w.heap.size 24)
  clear hs
  go_enter Tryd.func17, Tryd.ntmps17
  go_wp2_with fail
  go_loopw [3, 4] (fun v vi wr => ∃ i : Nat, i ≤ L.length ∧ vi = .int .i64 i ∧ OwnU wr w.heap.size 24 v (L.take i) ∧ Below w.heap.size w wr) (fun _ vi _ => L.length - (intOf vi).toNat)
  case atStart => exact ⟨0, by omega, rfl, HNIL.out, Below.refl _ _⟩
  case round =>
    rename_i wr
    obtain ⟨i, hi, rfl, hrow, hB⟩ := hrel
    have HROW := Lib.hid hrow
    have HB := Lib.hid hB
    clear hrow hB
    by_cases hlt : i < L.length
    · obtain ⟨a, rfl, ha, hc⟩ := Ss.el HS.out hlt
      have HC := Lib.hid (hc wr HB.out)
      have kk : (i : Int) < (L.length : Int) := by omega
      have HTK : Hid (L.take (i + 1) = L.take i ++ [L[i]]) := Lib.hid (by rw [List.take_add_one, List.getElem?_eq_getElem hlt]; rfl)
      have HLEN : Hid ((L.take i).length + 1 ≤ 4000000) := Lib.hid (by rw [List.length_take]; omega)
      obtain ⟨s, hse⟩ : ∃ s, L[i] = s := ⟨_, rfl⟩
      rw [hse] at HC HTK
      clear hc ha hse
      go_wp2_with (first
        | (refine wpList_load_su rfl 23 (.tmp 14) rfl _ rfl elArr.2.1 szArr s HC.out ?_)
        | (refine wpList_one_su rfl 26 24 elSet (.tmp 15) rfl s rfl ?_)
        | (refine wpList_append_su rfl 26 24 elSet (.tmp 11) (.tmp 16) rfl w.heap.size _ (L.take i) rfl (World.ownsRow.alloc HROW.out _) (some ⟨wr.heap.size, 0, none⟩) [s] 1 1 (wr.heap.size + 1) rfl rfl (fun h => by cases h) (Ss.one (Has.made' wr _ _ _ rfl) (Nat.lt_succ_self _)) HLEN.out (by have := HB.out.size; simp; omega) ?_; intro v3 w3 h1 h2; have HO := Lib.hid h1; have HB3 := Lib.hid h2; clear h1 h2))
      go_roundw
      case rel => exact ⟨i + 1, by omega, by go_num, by rw [HTK.out]; exact HO.out, (HB.out.alloc HB.out.size _).trans HB3.out⟩
      case measure => simp [intOf]; omega
    · have hil : i = L.length := by omega
      subst hil
      rw [List.take_length] at HROW
      have kk : ¬ (L.length : Int) < (L.length : Int) := by omega
      go_wp2_with fail
      go_ret
      exact ⟨⟨_, rfl, HROW.out⟩, HB.out⟩
set_option maxHeartbeats 4000000 in
set_option maxRecDepth 100000 in
theorem rises_any (L : List Su) (q : Option Addr) (c : Nat) (hm : L.length < 4611686018427387904) (w : World) (hs : Sees w w.heap.size q (rowU L)) :
    Calls Tryd.prog 31 #[.slice q L.length c] w fun e w' => e = .returned (.bool (decide (AscU L))) ∧ Below w.heap.size w w' := by
  have HS := Lib.hid hs
  clear hs
  go_enter Tryd.func31, Tryd.ntmps31
  go_wp2_with fail
  go_loopw [3] (fun vi wr => ∃ i : Nat, 1 ≤ i ∧ (i ≤ L.length ∨ i = 1) ∧ vi = .int .i64 i ∧ (∀ j (hj : j + 1 < L.length), j + 1 < i → cmpU L[j] L[j + 1] = -1) ∧ Below w.heap.size w wr) (fun vi _ => L.length - (intOf vi).toNat)
  case atStart => exact ⟨1, by omega, .inr rfl, rfl, fun j _ h => by omega, Below.refl _ _⟩
  case round =>
    rename_i wr
    obtain ⟨i, hi1, hi2, rfl, hall, hB⟩ := hrel
    have HALL := Lib.hid hall
    have HB := Lib.hid hB
    clear hall hB
    by_cases hlt : i < L.length
    · obtain ⟨k, rfl⟩ : ∃ k, i = k + 1 := ⟨i - 1, by omega⟩
      obtain ⟨a, rfl, ha, hc⟩ := Ss.el HS.out (show k < L.length by omega)
      obtain ⟨a', e', _, hc'⟩ := Ss.el HS.out hlt
      cases e'
      obtain ⟨m, hme⟩ : ∃ m, m = k + 1 := ⟨_, rfl⟩
      have HNEW : Hid (cmpU L[k] L[k + 1] = -1 → ∀ j (hj : j + 1 < L.length), j + 1 < m + 1 → cmpU L[j] L[j + 1] = -1) := Lib.hid (fun h j hj hjm => by
        by_cases e : j = k
        · subst e; exact h
        · exact HALL.out j hj (by omega))
      have HBAD : Hid (cmpU L[k] L[k + 1] ≠ -1 → ¬ AscU L) := Lib.hid (fun h ha => h (asc_at ha k hlt))
      obtain ⟨x, hxe⟩ : ∃ x, L[k]'(Nat.lt_of_succ_lt hlt) = x := ⟨_, rfl⟩
      obtain ⟨y, hye⟩ : ∃ y, L[k + 1] = y := ⟨_, rfl⟩
      rw [hxe, hye] at HNEW HBAD
      have HC : Hid (∀ w', Below w.heap.size w w' → ∀ j u, (encU x)[j]? = some u → w'.cell? ((a.add (k * 32)).add j) = some u) := Lib.hid (hxe ▸ hc)
      have HC' : Hid (∀ w', Below w.heap.size w w' → ∀ j u, (encU y)[j]? = some u → w'.cell? ((a.add (m * 32)).add j) = some u) := Lib.hid (by subst hye; subst hme; exact hc')
      have kk : (m : Int) < (L.length : Int) := by omega
      have km : (m : Int) - 1 = (k : Int) := by omega
      have km2 : m ≤ 4611686018427387904 := by omega
      have HM := Lib.hid hme
      have HV := Lib.hid (cmpU_vals x y)
      clear hc hc' ha hxe hye
      rw [← hme]
      have hk1 : k < 4611686018427387904 := by omega
      have hkl : (k : Int) < (L.length : Int) := by omega
      have kwr : IntKind.i64.wrap (k : Int) = (k : Int) := IntWalk.i64_in _ (by omega)
      clear hme
      go_wp2_with fail
      refine wp_region_org [(0, true), (1, true), (2, true), (3, true), (4, true), (5, true), (6, true), (7, true), (8, true), (9, false), (10, true)] (by kernel_rfl) (by kernel_rfl) (by kernel_rfl) ?_
      replace HB := Lib.hid HB.out.drew
      generalize wr.drew = wd at *
      simp only [pickOrs, List.getElem?_cons_zero, List.getElem?_cons_succ]
      refine org_pure (v := ?_) (by kernel_rfl) ?_ ?_
      rotate_left
      · intro w' hv; clear hv; go_simp; try with_reducible rfl
      try simp only [Act.put, List.setIfInBounds_toArray, List.set_cons_zero, List.set_cons_succ]
      refine org_pure (v := ?_) (by kernel_rfl) ?_ ?_
      rotate_left
      · intro w' hv; clear hv; go_simp; try with_reducible rfl
      try simp only [Act.put, List.setIfInBounds_toArray, List.set_cons_zero, List.set_cons_succ]
      refine org_pure (v := ?_) (by kernel_rfl) ?_ ?_
      rotate_left
      · intro w' hv; clear hv; go_simp; try with_reducible rfl
      try simp only [Act.put, List.setIfInBounds_toArray, List.set_cons_zero, List.set_cons_succ]
      refine org_pure (v := ?_) (by kernel_rfl) ?_ ?_
      rotate_left
      · intro w' hv; clear hv; go_simp; try with_reducible rfl
      try simp only [Act.put, List.setIfInBounds_toArray, List.set_cons_zero, List.set_cons_succ]
      refine org_pure (by kernel_rfl) (fun w' hv => load_su 24 (.tmp 13) rfl _ rfl elSum.2.1 szSum x ((fun w' hv => HC.out w' (HB.out.trans (Below.mono hv HB.out.size))) w' hv)) ?_
      try simp only [Act.put, List.setIfInBounds_toArray, List.set_cons_zero, List.set_cons_succ]
      refine org_pure (v := ?_) (by kernel_rfl) ?_ ?_
      rotate_left
      · intro w' hv; clear hv; go_simp; try with_reducible rfl
      try simp only [Act.put, List.setIfInBounds_toArray, List.set_cons_zero, List.set_cons_succ]
      refine org_pure (v := ?_) (by kernel_rfl) ?_ ?_
      rotate_left
      · intro w' hv; clear hv; go_simp; try with_reducible rfl
      try simp only [Act.put, List.setIfInBounds_toArray, List.set_cons_zero, List.set_cons_succ]
      refine org_pure (v := ?_) (by kernel_rfl) ?_ ?_
      rotate_left
      · intro w' hv; clear hv; go_simp; try with_reducible rfl
      try simp only [Act.put, List.setIfInBounds_toArray, List.set_cons_zero, List.set_cons_succ]
      refine org_pure (by kernel_rfl) (fun w' hv => load_su 24 (.tmp 17) rfl _ rfl elSum.2.1 szSum y ((fun w' hv => HC'.out w' (HB.out.trans (Below.mono hv HB.out.size))) w' hv)) ?_
      try simp only [Act.put, List.setIfInBounds_toArray, List.set_cons_zero, List.set_cons_succ]
      refine org_step (by kernel_rfl) (fun K hK => ?_)
      go_wp2_with fail
      refine (cmpS_any x y _).mono ?_
      rintro e wx ⟨rfl, hb⟩
      have HE := Lib.hid hb
      clear hb
      refine hK _ _ ⟨HE.out, ?_⟩
      clear hK
      try simp only [Act.put, List.setIfInBounds_toArray, List.set_cons_zero, List.set_cons_succ]
      replace HB := Lib.hid (HB.out.trans (HE.out.mono HB.out.size))
      clear HE
      rcases HV.out with hv | hv | hv
      · rw [hv]
        refine org_pure (v := ?_) (by kernel_rfl) ?_ ?_
        rotate_left
        · intro w' hv; clear hv; go_simp; try with_reducible rfl
        try simp only [Act.put, List.setIfInBounds_toArray, List.set_cons_zero, List.set_cons_succ]
        refine org_nil ?_
        have HN := Lib.hid (HNEW.out hv)
        clear hv
        go_wp2_with fail
        go_roundw
        case rel => exact ⟨m + 1, by omega, .inl (by have := HM.out; omega), by go_num, HN.out, HB.out⟩
        case measure => simp [intOf]; omega
      · rw [hv]
        refine org_pure (v := ?_) (by kernel_rfl) ?_ ?_
        rotate_left
        · intro w' hv; clear hv; go_simp; try with_reducible rfl
        try simp only [Act.put, List.setIfInBounds_toArray, List.set_cons_zero, List.set_cons_succ]
        refine org_nil ?_
        have HR := Lib.hid (decide_eq_false (HBAD.out (by rw [hv]; decide)))
        clear hv
        go_wp2_with fail
        go_ret
        exact ⟨congrArg (fun b => Ending.returned (.bool b)) HR.out.symm, HB.out⟩
      · rw [hv]
        refine org_pure (v := ?_) (by kernel_rfl) ?_ ?_
        rotate_left
        · intro w' hv; clear hv; go_simp; try with_reducible rfl
        try simp only [Act.put, List.setIfInBounds_toArray, List.set_cons_zero, List.set_cons_succ]
        refine org_nil ?_
        have HR := Lib.hid (decide_eq_false (HBAD.out (by rw [hv]; decide)))
        clear hv
        go_wp2_with fail
        go_ret
        exact ⟨congrArg (fun b => Ending.returned (.bool b)) HR.out.symm, HB.out⟩
    · have HR : Hid (decide (AscU L) = true) := Lib.hid (decide_eq_true (asc_next fun j hj => HALL.out j hj (by omega)))
      have kk : ¬ (i : Int) < (L.length : Int) := by omega
      go_wp2_with fail
      go_ret
      exact ⟨congrArg (fun b => Ending.returned (.bool b)) HR.out.symm, HB.out⟩
def goodU (L : List Su) : Bool := decide (L.length ≤ 512) && decide (AscU L)
set_option maxHeartbeats 1000000 in
theorem good_any (L : List Su) (q : Option Addr) (c : Nat) (hm : L.length < 4611686018427387904) (w : World) (hs : Sees w w.heap.size q (rowU L)) :
    Calls Tryd.prog 9 #[.slice q L.length c] w fun e w' => e = .returned (.bool (goodU L)) ∧ Below w.heap.size w w' := by
  have HR := Lib.hid (rises_any L q c hm w hs)
  clear hs
  by_cases hl : L.length ≤ 512
  · have HG : Hid (goodU L = decide (AscU L)) := Lib.hid (by unfold goodU; rw [decide_eq_true hl, Bool.true_and])
    have k1 : (L.length : Int) ≤ 512 := by omega
    go_enter Tryd.func9, Tryd.ntmps9
    go_wp2_with (refine HR.out.mono ?_; rintro e w1 ⟨rfl, hb⟩; have HB := Lib.hid hb; clear hb)
    go_ret
    exact ⟨congrArg (fun b => Ending.returned (.bool b)) HG.out.symm, HB.out⟩
  · have HG : Hid (goodU L = false) := Lib.hid (by unfold goodU; rw [decide_eq_false hl, Bool.false_and])
    have k1 : ¬ (L.length : Int) ≤ 512 := by omega
    go_enter Tryd.func9, Tryd.ntmps9
    go_wp2_with fail
    go_ret
    exact ⟨congrArg (fun b => Ending.returned (.bool b)) HG.out.symm, Below.refl _ _⟩
end Go.Proofs.YtlidoikpfodpeaaDoor
/- Contract: slices.Compact over sums, in a row of the caller's own. Condition: at most 10^6 sums. -/
namespace Go.Proofs.YtlidoikpfodpeaaDoor
open Go.RowKit
theorem gdSum : Tryd.prog.eqGuardType Tryd.prog.depth 24 = false := by kernel_rfl
theorem RowAt.keep {w w' : World} {g : Nat} {E : TypeId} {dk : Array Su} {rest : List Value} (h : RowAt w g E dk rest) (hb : Below w.heap.size w w') : RowAt w' g E dk rest := Has.keep h hb (Has.lt h)
theorem RowAt.drew {w : World} {g : Nat} {E : TypeId} {dk : Array Su} {rest : List Value} (h : RowAt w g E dk rest) : RowAt w.drew g E dk rest := h
theorem OwnU.row {w : World} {base g cap : Nat} {E : TypeId} {M : List Su} (h : OwnU w base E (.slice (some ⟨g, 0, none⟩) M.length cap) M) : ∃ rest, RowAt w g E M.toArray rest ∧ base ≤ g ∧ M.length ≤ cap ∧ cap ≤ maxLen ∧ rest.length = (cap - M.length) * 32 := by
  rcases h.2 with ⟨h0, _⟩ | ⟨g', cap', cur, e0, hb, hg, h1, h2, h3, h4⟩
  · cases h0
  · injection e0 with e1 _ e3
    injection e1 with e1
    injection e1 with e1
    subst e1
    subst e3
    refine ⟨cur.toList.drop (M.length * 32), ?_, hb, h1, h2, ?_⟩
    · unfold RowAt Has
      rw [hg]
      have e : rowU M ++ cur.toList.drop (M.length * 32) = cur.toList := by rw [← h4, List.take_append_drop]
      simp only [e]
    · rw [List.length_drop]
      have : cur.toList.length = cap * 32 := by simpa using h3
      rw [this, ← Nat.sub_mul]
theorem RowAt.own {w : World} {base g cap : Nat} {E : TypeId} {L : List Su} {back : List Value} (h : RowAt w g E L.toArray back) (hb : base ≤ g) (h1 : L.length ≤ cap) (h2 : cap ≤ maxLen) (h3 : back.length = (cap - L.length) * 32) : OwnU w base E (.slice (some ⟨g, 0, none⟩) L.length cap) L := by
  refine ⟨rowU_len L, .inr ⟨g, cap, (rowU L ++ back).toArray, rfl, hb, h, h1, h2, ?_, ?_⟩⟩
  · simp only [List.size_toArray, List.length_append, rowU_len, h3, ← Nat.add_mul]
    congr 1; omega
  · show (rowU L ++ back).take (L.length * 32) = rowU L
    rw [List.take_append_of_le_length (by rw [rowU_len]; exact Nat.le_refl _), List.take_of_length_le (by rw [rowU_len]; exact Nat.le_refl _)]
theorem cut_lit (T E : TypeId) (hT : ElT T E) (g n c k : Nat) (hk : k ≤ n) (hkc : k < c) (w : World) : (Instr.slice T (.slice (some ⟨g, 0, none⟩) n c) (some (.int .i64 (k : Int))) none none).run Tryd.prog w = .ok (.slice (some ⟨g, k * 32, none⟩) (n - k) (c - k)) w := by
  rw [cut_su T E hT (some ⟨g, 0, none⟩) n c k hk w, if_neg (by omega), Option.map_some, add_lit', Nat.zero_add]
theorem compact_short {M : List Su} (h : M.length < 2) : Lib.compact M = M := Lib.compact_all M fun j hj => Lib.keeps_lt_one _ j (by omega)
set_option maxHeartbeats 4000000 in
theorem compactS_short (M : List Su) (q : Option Addr) (cap : Nat) (h2 : M.length < 2) (w : World) : Calls Tryd.prog 30 #[.slice q M.length cap] w fun e w' => e = .returned (.slice q M.length cap) ∧ w' = w := by
  have kk : (M.length : Int) < 2 := by omega
  go_enter Tryd.func30, Tryd.ntmps30
  go_wp2_with fail
  go_ret
  exact ⟨rfl, rfl⟩
set_option maxHeartbeats 8000000 in
set_option maxRecDepth 100000 in
theorem compactS_any (M : List Su) (g cap base : Nat) (hm : M.length ≤ 1000000) (w : World) (hO : OwnU w base 24 (.slice (some ⟨g, 0, none⟩) M.length cap) M) :
    Calls Tryd.prog 30 #[.slice (some ⟨g, 0, none⟩) M.length cap] w fun e w' => e = .returned (.slice (some ⟨g, 0, none⟩) (Lib.compact M).length cap) ∧ OwnU w' base 24 (.slice (some ⟨g, 0, none⟩) (Lib.compact M).length cap) (Lib.compact M) ∧ Below base w w' := by
  by_cases h2 : M.length < 2
  · refine (compactS_short M (some ⟨g, 0, none⟩) cap h2 w).mono ?_
    rintro e w' ⟨rfl, rfl⟩
    rw [compact_short h2]
    exact ⟨rfl, hO, Below.refl _ _⟩
  obtain ⟨rest, hR, hbg, hcap, hmax, hrest⟩ := hO.row
  have HR := Lib.hid hR
  have HX := Lib.hid hrest
  have HMX := Lib.hid hmax
  obtain ⟨d, hd⟩ : ∃ d, d = M.toArray := ⟨_, rfl⟩
  have hds : d.size = M.length := by rw [hd]; simp
  have HDS := Lib.hid hds
  have HCM : Hid (Lib.compact M = Lib.compactUpTo d d.size) := Lib.hid (by subst hd; simp [Lib.compact])
  have HDL : Hid (d.toList = M) := Lib.hid (by subst hd; simp)
  rw [← hd] at HR
  clear hR hrest hO hd hmax
  generalize hn : M.length = n at *
  have HN := Lib.hid hn
  clear hn
  have k2n : ¬ (n : Int) < 2 := by omega
  have HCUT : Hid (∀ k, k < n → ∀ w, (Instr.slice 25 (.slice (some ⟨g, 0, none⟩) n cap) (some (.int .i64 (k : Int))) none none).run Tryd.prog w = .ok (.slice (some ⟨g, k * 32, none⟩) (n - k) (cap - k)) w) := Lib.hid (fun k hk w => cut_lit _ _ elSum g n cap k (by omega) (by omega) w)
  go_enter Tryd.func30, Tryd.ntmps30
  go_wp2_with fail
  go_loopw [3] (fun v wr => ∃ k : Nat, 1 ≤ k ∧ k ≤ n ∧ v = .int .i64 k ∧ RowAt wr g 24 d rest ∧ Below base w wr ∧ ∀ j, j < k → Lib.keeps d j = true) (fun v _ => n - (intOf v).toNat)
  case atStart => exact ⟨1, by omega, by omega, rfl, HR.out, Below.refl _ _, Lib.keeps_lt_one d⟩
  case round =>
    clear HR
    rename_i wr
    obtain ⟨k, hk1, hk, rfl, hR, hB, hall⟩ := hrel
    have HR := Lib.hid hR
    have HB := Lib.hid hB
    have HALL := Lib.hid hall
    clear hR hB hall
    by_cases hlt : k < n
    · have c1 := fun w' (hb : Below wr.heap.size wr w') => (HR.out.keep hb).el k (by have := HDS.out; omega) (k * 32) rfl
      have c2 := fun w' (hb : Below wr.heap.size wr w') => (HR.out.keep hb).el (k - 1) (by have := HDS.out; omega) ((k - 1) * 32) rfl
      have HKP : Hid (d[k]! ≠ d[k - 1]! → Lib.keeps d k = true) := Lib.hid (fun h => Lib.keeps_pos h)
      have HKN : Hid (d[k]! = d[k - 1]! → Lib.keeps d k = false) := Lib.hid (fun h => Lib.keeps_neg (by omega) h)
      generalize d[k]! = u at *
      generalize d[k - 1]! = v at *
      have C1 := Lib.hid c1
      have C2 := Lib.hid c2
      clear c1 c2
      obtain ⟨p, hp⟩ : ∃ p, k = p + 1 := ⟨k - 1, by omega⟩
      have hp1 : k - 1 = p := by omega
      rw [hp1] at C2
      have kp : (k : Int) - 1 = (p : Int) := by omega
      have kwr : IntKind.i64.wrap (p : Int) = (p : Int) := IntWalk.i64_in _ (by omega)
      have hpn : (p : Int) < (n : Int) := by omega
      have hkn : (k : Int) < (n : Int) := by omega
      have HP := Lib.hid hp
      clear hp hp1
      go_wp2_with fail
      refine wp_region_org [(0, true), (1, true), (2, true), (3, true), (4, true), (5, true), (6, true), (7, true), (8, true), (9, true)] (by kernel_rfl) (by kernel_rfl) (by kernel_rfl) ?_
      replace HB := Lib.hid HB.out.drew
      replace HR := Lib.hid HR.out.drew
      replace C1 := Lib.hid (fun w' (hv : Ext wr.drew w') => C1.out w' (Below.drew (Below.refl _ wr) |>.trans hv))
      replace C2 := Lib.hid (fun w' (hv : Ext wr.drew w') => C2.out w' (Below.drew (Below.refl _ wr) |>.trans hv))
      generalize wr.drew = wd at *
      simp only [pickOrs, List.getElem?_cons_zero, List.getElem?_cons_succ]
      refine org_pure (v := ?_) (by kernel_rfl) ?_ ?_
      rotate_left
      · intro w' hv; clear hv; go_simp; try with_reducible rfl
      try simp only [Act.put, List.setIfInBounds_toArray, List.set_cons_zero, List.set_cons_succ]
      refine org_pure (v := ?_) (by kernel_rfl) ?_ ?_
      rotate_left
      · intro w' hv; clear hv; go_simp; try with_reducible rfl
      try simp only [Act.put, List.setIfInBounds_toArray, List.set_cons_zero, List.set_cons_succ]
      refine org_pure (v := ?_) (by kernel_rfl) ?_ ?_
      rotate_left
      · intro w' hv; clear hv; go_simp; try with_reducible rfl
      try simp only [Act.put, List.setIfInBounds_toArray, List.set_cons_zero, List.set_cons_succ]
      refine org_pure (by kernel_rfl) (fun w' hv => load_su 24 (.tmp 18) rfl _ rfl elSum.2.1 szSum u ((fun w' hv => C1.out w' hv) w' hv)) ?_
      try simp only [Act.put, List.setIfInBounds_toArray, List.set_cons_zero, List.set_cons_succ]
      refine org_pure (v := ?_) (by kernel_rfl) ?_ ?_
      rotate_left
      · intro w' hv; clear hv; go_simp; try with_reducible rfl
      try simp only [Act.put, List.setIfInBounds_toArray, List.set_cons_zero, List.set_cons_succ]
      refine org_pure (v := ?_) (by kernel_rfl) ?_ ?_
      rotate_left
      · intro w' hv; clear hv; go_simp; try with_reducible rfl
      try simp only [Act.put, List.setIfInBounds_toArray, List.set_cons_zero, List.set_cons_succ]
      refine org_pure (v := ?_) (by kernel_rfl) ?_ ?_
      rotate_left
      · intro w' hv; clear hv; go_simp; try with_reducible rfl
      try simp only [Act.put, List.setIfInBounds_toArray, List.set_cons_zero, List.set_cons_succ]
      refine org_pure (v := ?_) (by kernel_rfl) ?_ ?_
      rotate_left
      · intro w' hv; clear hv; go_simp; try with_reducible rfl
      try simp only [Act.put, List.setIfInBounds_toArray, List.set_cons_zero, List.set_cons_succ]
      refine org_pure (by kernel_rfl) (fun w' hv => load_su 24 (.tmp 23) rfl _ rfl elSum.2.1 szSum v ((fun w' hv => C2.out w' hv) w' hv)) ?_
      try simp only [Act.put, List.setIfInBounds_toArray, List.set_cons_zero, List.set_cons_succ]
      refine org_pure (by kernel_rfl) (fun w' hv => eql_su 24 (.tmp 19) (.tmp 24) _ rfl u v rfl rfl elSum.2.1 gdSum) ?_
      try simp only [Act.put, List.setIfInBounds_toArray, List.set_cons_zero, List.set_cons_succ]
      refine org_nil ?_
      clear C1 C2
      by_cases huv : u = v
      · have HKEEP := Lib.hid (HKN.out huv)
        rw [decide_eq_true huv]
        have hcut := HCUT.out k hlt
        have HI0 : Hid (Lib.CompInv d (k + 1) k d) := Lib.hid (Lib.CompInv.start HALL.out HKEEP.out)
        clear HKP HKN HKEEP HALL huv
        go_wp2_with fail
        go_loopw [3, 5] (fun v v5 wr => ∃ (kk k2 : Nat) (dk : Array Su), 1 ≤ k2 ∧ k + k2 ≤ n ∧ v = .int .i64 kk ∧ v5 = .int .i64 k2 ∧ RowAt wr g 24 dk rest ∧ Below base w wr ∧ Lib.CompInv d (k + k2) kk dk) (fun _ v5 _ => n - (intOf v5).toNat)
        case atStart => exact ⟨k, 1, d, by omega, by omega, rfl, rfl, HR.out, HB.out, HI0.out⟩
        case round =>
          clear HR HB HI0 hcut
          obtain ⟨kk, k2, dk, hk21, hk2, rfl, rfl, hR, hB, hI⟩ := hrel
          have HR := Lib.hid hR
          have HB := Lib.hid hB
          have HI := Lib.hid hI
          have hkk : kk < k + k2 := hI.lt
          have hsz := hI.size
          have hsz2 := HDS.out
          clear hR hB hI
          by_cases hlt2 : k + k2 < n
          · have c1 := fun w' (hb : Below wr.heap.size wr w') => (HR.out.keep hb).el (k + k2) (by omega) (k * 32 + k2 * 32) (by omega)
            have c2 := fun w' (hb : Below wr.heap.size wr w') => (HR.out.keep hb).el (k + k2 - 1) (by omega) (k * 32 + (k2 - 1) * 32) (by omega)
            rw [HI.out.high (k + k2) (by omega)] at c1
            rw [HI.out.high (k + k2 - 1) (by omega)] at c2
            have HKP : Hid (d[k + k2]! ≠ d[k + k2 - 1]! → Lib.CompInv d (k + k2 + 1) (kk + 1) (dk.setIfInBounds kk d[k + k2]!)) := Lib.hid (fun h => HI.out.keep (by omega) (Lib.keeps_pos h))
            have HKN : Hid (d[k + k2]! = d[k + k2 - 1]! → Lib.CompInv d (k + k2 + 1) kk dk) := Lib.hid (fun h => HI.out.skip (Lib.keeps_neg (by omega) h))
            generalize d[k + k2]! = x at *
            generalize d[k + k2 - 1]! = y at *
            have C1 := Lib.hid c1
            have C2 := Lib.hid c2
            clear c1 c2
            obtain ⟨p2, hp2⟩ : ∃ p, k2 = p + 1 := ⟨k2 - 1, by omega⟩
            have hp1 : k2 - 1 = p2 := by omega
            rw [hp1] at C2
            have kp2 : (k2 : Int) - 1 = (p2 : Int) := by omega
            have kwq : IntKind.i64.wrap (p2 : Int) = (p2 : Int) := IntWalk.i64_in _ (by omega)
            have hm2 : ((n - k : Nat) : Int) = (n : Int) - (k : Int) := by omega
            have hpn2 : (p2 : Int) < ((n - k : Nat) : Int) := by omega
            have hkn2 : (k2 : Int) < ((n - k : Nat) : Int) := by omega
            have hkkn : (kk : Int) < (n : Int) := by omega
            have hk2b : k2 ≤ 1000000 := by omega
            have hkkb : kk ≤ 1000000 := by omega
            have HP2 := Lib.hid hp2
            generalize n - k = m at *
            clear hp2 hp1 HI hm2 kp hpn hkn kwr
            go_wp2_with fail
            refine wp_region_org [(0, true), (1, true), (2, true), (3, true), (4, true), (5, true), (6, true), (7, true), (8, true), (9, true)] (by kernel_rfl) (by kernel_rfl) (by kernel_rfl) ?_
            replace HB := Lib.hid HB.out.drew
            replace HR := Lib.hid HR.out.drew
            replace C1 := Lib.hid (fun w' (hv : Ext wr.drew w') => C1.out w' (Below.drew (Below.refl _ wr) |>.trans hv))
            replace C2 := Lib.hid (fun w' (hv : Ext wr.drew w') => C2.out w' (Below.drew (Below.refl _ wr) |>.trans hv))
            generalize wr.drew = wd2 at *
            simp only [pickOrs, List.getElem?_cons_zero, List.getElem?_cons_succ]
            refine org_pure (v := ?_) (by kernel_rfl) ?_ ?_
            rotate_left
            · intro w' hv; clear hv; go_simp; try with_reducible rfl
            try simp only [Act.put, List.setIfInBounds_toArray, List.set_cons_zero, List.set_cons_succ]
            refine org_pure (v := ?_) (by kernel_rfl) ?_ ?_
            rotate_left
            · intro w' hv; clear hv; go_simp; try with_reducible rfl
            try simp only [Act.put, List.setIfInBounds_toArray, List.set_cons_zero, List.set_cons_succ]
            refine org_pure (v := ?_) (by kernel_rfl) ?_ ?_
            rotate_left
            · intro w' hv; clear hv; go_simp; try with_reducible rfl
            try simp only [Act.put, List.setIfInBounds_toArray, List.set_cons_zero, List.set_cons_succ]
            refine org_pure (by kernel_rfl) (fun w' hv => load_su 24 (.tmp 37) rfl _ rfl elSum.2.1 szSum x ((fun w' hv => C1.out w' hv) w' hv)) ?_
            try simp only [Act.put, List.setIfInBounds_toArray, List.set_cons_zero, List.set_cons_succ]
            refine org_pure (v := ?_) (by kernel_rfl) ?_ ?_
            rotate_left
            · intro w' hv; clear hv; go_simp; try with_reducible rfl
            try simp only [Act.put, List.setIfInBounds_toArray, List.set_cons_zero, List.set_cons_succ]
            refine org_pure (v := ?_) (by kernel_rfl) ?_ ?_
            rotate_left
            · intro w' hv; clear hv; go_simp; try with_reducible rfl
            try simp only [Act.put, List.setIfInBounds_toArray, List.set_cons_zero, List.set_cons_succ]
            refine org_pure (v := ?_) (by kernel_rfl) ?_ ?_
            rotate_left
            · intro w' hv; clear hv; go_simp; try with_reducible rfl
            try simp only [Act.put, List.setIfInBounds_toArray, List.set_cons_zero, List.set_cons_succ]
            refine org_pure (v := ?_) (by kernel_rfl) ?_ ?_
            rotate_left
            · intro w' hv; clear hv; go_simp; try with_reducible rfl
            try simp only [Act.put, List.setIfInBounds_toArray, List.set_cons_zero, List.set_cons_succ]
            refine org_pure (by kernel_rfl) (fun w' hv => load_su 24 (.tmp 42) rfl _ rfl elSum.2.1 szSum y ((fun w' hv => C2.out w' hv) w' hv)) ?_
            try simp only [Act.put, List.setIfInBounds_toArray, List.set_cons_zero, List.set_cons_succ]
            refine org_pure (by kernel_rfl) (fun w' hv => neq_su 24 (.tmp 38) (.tmp 43) _ rfl x y rfl rfl elSum.2.1 gdSum) ?_
            try simp only [Act.put, List.setIfInBounds_toArray, List.set_cons_zero, List.set_cons_succ]
            refine org_nil ?_
            have C3 := Lib.hid (C1.out wd2 (Ext.refl _))
            clear C1 C2
            by_cases hxy : x = y
            · have HNEW := Lib.hid (HKN.out hxy)
              rw [decide_eq_true hxy]
              clear HKP HKN hxy C3
              go_wp2_with fail
              go_roundw
              case rel => exact ⟨kk, k2 + 1, dk, by omega, by omega, rfl, by go_num, HR.out, HB.out, HNEW.out⟩
              case measure => simp [intOf]; omega
            · have HNEW := Lib.hid (HKP.out hxy)
              rw [decide_eq_false hxy]
              clear HKP HKN hxy
              have HPUT := Lib.hid (HR.out.put kk (by omega) x)
              have HBP := Lib.hid (below_setCells hbg (encU x) (kk * 32) _ HB.out)
              go_wp2_with (first
                | (refine wpList_load_su rfl 24 (.tmp 49) rfl _ rfl elSum.2.1 szSum x C3.out ?_)
                | (refine wpList_store_su rfl 24 szSum (.tmp 51) (.tmp 50) rfl g kk _ (by omega) rfl x rfl HR.out (by omega) ?_))
              go_roundw
              case rel => exact ⟨kk + 1, k2 + 1, dk.setIfInBounds kk x, by omega, by omega, by go_num, by go_num, HPUT.out, HBP.out, HNEW.out⟩
              case measure => simp [intOf]; omega
          · have hend : k + k2 = n := by omega
            have hcut2 := HCUT.out kk (by omega)
            have hclr := fun ty => run_clear_su 25 24 elSum wr g kk (n - kk) (cap - kk) ty (by omega) HR.out (by omega) (kk * 32) rfl
            have hhd := fun w' => head_su 25 24 elSum (some ⟨g, 0, none⟩) n cap kk (by omega) w'
            obtain ⟨back, hrow, hbl⟩ := HR.out.cleared kk (n - kk) (by omega)
            have HROW := Lib.hid hrow
            have HBL := Lib.hid hbl
            have HBP := Lib.hid (below_setCells hbg (List.replicate ((n - kk) * 32) (Value.int .u8 0)) (kk * 32) _ HB.out)
            have hm2 : ((n - k : Nat) : Int) = (n : Int) - (k : Int) := by omega
            have hkn2 : ¬ (k2 : Int) < ((n - k : Nat) : Int) := by omega
            have HFIN : Hid (Lib.compact M = dk.toList.take kk) := Lib.hid (by
              rw [HCM.out]
              have hI := HI.out
              have hlow := hI.low
              have hlen := hI.len
              rw [hend] at hlow hlen
              rw [HDS.out]
              refine List.ext_getElem? fun j => ?_
              by_cases hj : j < kk
              · rw [hlow j hj, List.getElem?_take_of_lt hj, getElem!_pos dk j (by omega)]
                simp
              · rw [List.getElem?_eq_none (by omega), List.getElem?_eq_none (by rw [List.length_take]; omega)])
            have HLEN : Hid ((dk.toList.take kk).length = kk) := Lib.hid (by rw [List.length_take]; simp; omega)
            clear hrow hbl
            generalize hmm : n - k = m at *
            have hkk9 : kk ≤ n := by omega
            have hn9 := HDS.out
            go_wp2_with fail
            go_ret
            have hown := RowAt.own (base := base) HROW.out hbg (cap := cap) (by rw [HLEN.out]; omega) HMX.out (by rw [HLEN.out, HBL.out, HX.out, ← Nat.add_mul]; congr 1; omega)
            rw [HFIN.out]
            rw [HLEN.out] at hown ⊢
            exact ⟨rfl, hown, HBP.out⟩
      · have HKEEP := Lib.hid (HKP.out huv)
        rw [decide_eq_false huv]
        clear HKP HKN huv
        go_wp2_with fail
        go_roundw
        case rel => exact ⟨k + 1, by omega, by omega, by go_num, HR.out, HB.out, fun j hj => by
          by_cases e : j = k
          · subst e; exact HKEEP.out
          · exact HALL.out j (by omega)⟩
        case measure => simp [intOf]; omega
    · have hkn : k = n := by omega
      subst hkn
      have HFIN : Hid (Lib.compact M = M) := Lib.hid (Lib.compact_all M fun j hj => by
        have := HALL.out j (by have := HN.out; omega)
        rw [show M.toArray = d by rw [← HDL.out]]
        exact this)
      have kk : ¬ (k : Int) < (k : Int) := by omega
      go_wp2_with fail
      go_ret
      rw [HFIN.out]
      have hL : M.length = k := HN.out
      have hR2 : RowAt wr g 24 M.toArray rest := by rw [show M.toArray = d by rw [← HDL.out]]; exact HR.out
      rw [hL]
      have hown := RowAt.own (base := base) hR2 hbg (cap := cap) (by omega) HMX.out (by rw [hL]; exact HX.out)
      rw [hL] at hown
      exact ⟨rfl, hown, HB.out⟩
end Go.Proofs.YtlidoikpfodpeaaDoor
/- slices.SortFunc, Clone, Equal over sums, by this dump’s numbers: applications of the library’s own contracts. Conditions: those of the library. -/
namespace Go.Proofs.YtlidoikpfodpeaaDoor
open Go.Shelf Go.RowKit
def laysSortU_ren : Go.Shelf.Ren := ⟨fun | 6 => 28 | 15 => 46 | 14 => 45 | 28 => 60 | 29 => 61 | 20 => 52 | 21 => 53 | 22 => 54 | 23 => 55 | 24 => 56 | 25 => 57 | 26 => 58 | 27 => 59 | 46 => 67 | 47 => 68 | 48 => 69 | 49 => 70 | 50 => 71 | 57 => 73 | n => n, fun | 22 => 25 | 24 => 24 | 25 => 52 | 3 => 3 | 39 => 74 | 0 => 0 | 53 => 60 | 55 => 63 | 4 => 4 | 46 => 83 | 45 => 82 | 50 => 54 | 5 => 5 | 9 => 9 | 66 => 95 | 70 => 99 | 76 => 102 | 77 => 103 | n => n, fun | n => n⟩
theorem laysSortU : Go.Proofs.SlLaysF0.n6 Tryd.prog laysSortU_ren := {
  mixed := by kernel_rfl
  f6 := ⟨Tryd.f28.name, by decide, Tryd.func28.trans (congrArg some (by kernel_rfl))⟩
  f14 := ⟨Tryd.f45.name, by decide, Tryd.func45.trans (congrArg some (by kernel_rfl))⟩
  f15 := Tryd.func46.trans (congrArg some (by kernel_rfl))
  f20 := ⟨Tryd.f52.name, by decide, Tryd.func52.trans (congrArg some (by kernel_rfl))⟩
  f21 := ⟨Tryd.f53.name, by decide, Tryd.func53.trans (congrArg some (by kernel_rfl))⟩
  f22 := ⟨Tryd.f54.name, by decide, Tryd.func54.trans (congrArg some (by kernel_rfl))⟩
  f23 := ⟨Tryd.f55.name, by decide, Tryd.func55.trans (congrArg some (by kernel_rfl))⟩
  f24 := ⟨Tryd.f56.name, by decide, Tryd.func56.trans (congrArg some (by kernel_rfl))⟩
  f25 := ⟨Tryd.f57.name, by decide, Tryd.func57.trans (congrArg some (by kernel_rfl))⟩
  f26 := ⟨Tryd.f58.name, by decide, Tryd.func58.trans (congrArg some (by kernel_rfl))⟩
  f27 := ⟨Tryd.f59.name, by decide, Tryd.func59.trans (congrArg some (by kernel_rfl))⟩
  f28 := Tryd.func60.trans (congrArg some (by kernel_rfl))
  f29 := Tryd.func61.trans (congrArg some (by kernel_rfl))
  f46 := ⟨Tryd.f67.name, by decide, Tryd.func67.trans (congrArg some (by kernel_rfl))⟩
  f47 := Tryd.func68.trans (congrArg some (by kernel_rfl))
  f48 := Tryd.func69.trans (congrArg some (by kernel_rfl))
  f49 := ⟨Tryd.f70.name, by decide, Tryd.func70.trans (congrArg some (by kernel_rfl))⟩
  f50 := ⟨Tryd.f71.name, by decide, Tryd.func71.trans (congrArg some (by kernel_rfl))⟩
  f57 := ⟨Tryd.f73.name, by decide, Tryd.func73.trans (congrArg some (by kernel_rfl))⟩
  t0 := Tryd.underlying0
  a0 := Tryd.isAgg0
  z0 := Tryd.sizeOf0
  v0 := Tryd.zeroValue0
  t3 := Tryd.underlying3
  a3 := Tryd.isAgg3
  z3 := Tryd.sizeOf3
  v3 := Tryd.zeroValue3
  t4 := Tryd.underlying4
  a4 := Tryd.isAgg4
  z4 := Tryd.sizeOf4
  v4 := Tryd.zeroValue4
  t5 := Tryd.underlying5
  a5 := Tryd.isAgg5
  z5 := Tryd.sizeOf5
  v5 := Tryd.zeroValue5
  t9 := Tryd.underlying9
  a9 := Tryd.isAgg9
  z9 := Tryd.sizeOf9
  v9 := Tryd.zeroValue9
  t22 := Tryd.underlying25
  a22 := Tryd.isAgg25
  z22 := Tryd.sizeOf25
  v22 := Tryd.zeroValue25
  t25 := Tryd.underlying52
  a25 := Tryd.isAgg52
  z25 := Tryd.sizeOf52
  v25 := Tryd.zeroValue52
  t39 := Tryd.underlying74
  a39 := Tryd.isAgg74
  z39 := Tryd.sizeOf74
  v39 := Tryd.zeroValue74
  t45 := Tryd.underlying82
  a45 := Tryd.isAgg82
  z45 := Tryd.sizeOf82
  v45 := Tryd.zeroValue82
  t46 := Tryd.underlying83
  a46 := Tryd.isAgg83
  z46 := Tryd.sizeOf83
  v46 := Tryd.zeroValue83
  t50 := Tryd.underlying54
  a50 := Tryd.isAgg54
  z50 := Tryd.sizeOf54
  v50 := Tryd.zeroValue54
  t53 := Tryd.underlying60
  a53 := Tryd.isAgg60
  z53 := Tryd.sizeOf60
  v53 := Tryd.zeroValue60
  t55 := Tryd.underlying63
  a55 := Tryd.isAgg63
  z55 := Tryd.sizeOf63
  v55 := Tryd.zeroValue63
  t66 := Tryd.underlying95
  a66 := Tryd.isAgg95
  z66 := Tryd.sizeOf95
  v66 := Tryd.zeroValue95
  t70 := Tryd.underlying99
  a70 := Tryd.isAgg99
  z70 := Tryd.sizeOf99
  v70 := Tryd.zeroValue99
  t76 := Tryd.underlying102
  a76 := Tryd.isAgg102
  z76 := Tryd.sizeOf102
  v76 := Tryd.zeroValue102
  t77 := Tryd.underlying103
  a77 := Tryd.isAgg103
  z77 := Tryd.sizeOf103
  v77 := Tryd.zeroValue103 }
def laysCloneU_ren : Go.Shelf.Ren := ⟨fun | 41 => 27 | n => n, fun | 22 => 25 | 23 => 24 | 4 => 4 | n => n, fun | n => n⟩
theorem laysCloneU : Go.Proofs.SlLaysE0.n41 Tryd.prog laysCloneU_ren := {
  mixed := by kernel_rfl
  f41 := ⟨Tryd.f27.name, by decide, Tryd.func27.trans (congrArg some (by kernel_rfl))⟩
  t4 := Tryd.underlying4
  a4 := Tryd.isAgg4
  z4 := Tryd.sizeOf4
  v4 := Tryd.zeroValue4
  t22 := Tryd.underlying25
  a22 := Tryd.isAgg25
  z22 := Tryd.sizeOf25
  v22 := Tryd.zeroValue25 }
def laysEqualU_ren : Go.Shelf.Ren := ⟨fun | 8 => 33 | n => n, fun | 22 => 26 | 24 => 24 | 4 => 4 | 3 => 3 | 0 => 0 | n => n, fun | n => n⟩
theorem laysEqualU : Go.Proofs.SlLaysQ.n8 Tryd.prog laysEqualU_ren := {
  mixed := by kernel_rfl
  f8 := ⟨Tryd.f33.name, by decide, Tryd.func33.trans (congrArg some (by kernel_rfl))⟩
  t0 := Tryd.underlying0
  a0 := Tryd.isAgg0
  z0 := Tryd.sizeOf0
  v0 := Tryd.zeroValue0
  t3 := Tryd.underlying3
  a3 := Tryd.isAgg3
  z3 := Tryd.sizeOf3
  v3 := Tryd.zeroValue3
  t4 := Tryd.underlying4
  a4 := Tryd.isAgg4
  z4 := Tryd.sizeOf4
  v4 := Tryd.zeroValue4
  t22 := Tryd.underlying26
  a22 := Tryd.isAgg26
  z22 := Tryd.sizeOf26
  v22 := Tryd.zeroValue26 }
end Go.Proofs.YtlidoikpfodpeaaDoor
/- Contracts: slices.SortFunc, slices.Clone over sums; package set's Of, inOrder. Condition: at most 10^6 sums. -/
namespace Go.Proofs.YtlidoikpfodpeaaDoor
open Go.RowKit Go.Sort
theorem flatU (d : Array Su) : flatK encU 32 d = (rowU d.toList).toArray := by
  refine Array.ext (by simp [rowU_len]) fun t h1 h2 => ?_
  have ht : t < d.size * 32 := by simpa using h1
  have hi : t / 32 < d.toList.length := by simp; omega
  have h3 := get_flatK encU 32 d t ht
  rw [getElem!_pos (flatK encU 32 d) t h1] at h3
  rw [h3]
  have h4 := rowU_get d.toList (t / 32) hi (t % 32) (Nat.mod_lt _ (by decide))
  rw [show t / 32 * 32 + t % 32 = t by omega] at h4
  have h5 : t % 32 < (encU d.toList[t / 32]).length := by rw [encU_len]; exact Nat.mod_lt _ (by decide)
  rw [List.getElem?_eq_getElem h5, List.getElem?_eq_getElem (by simpa using h2)] at h4
  have h6 := Option.some.inj h4
  rw [getElem!_pos d (t / 32) (by simpa using hi), getElem!_pos (encU d[t / 32]) (t % 32) (by simpa using h5)]
  simpa using h6.symm
theorem RowAt.holds {w : World} {g : Nat} {E : TypeId} {dk : Array Su} {rest : List Value} (h : RowAt w g E dk rest) : HoldsK encU 32 w g 0 dk := fun j hj => by
  rw [flatU] at hj ⊢
  have hj' : j < (rowU dk.toList).length := by simpa using hj
  refine ⟨?_, Has.free h _⟩
  rw [Has.cell h, Nat.zero_add, List.getElem?_append_left hj', List.getElem?_eq_getElem hj', getElem!_pos (rowU dk.toList).toArray j hj]
  simp
theorem RowAt.sorted {w : World} {g : Nat} {E : TypeId} {dk d2 : Array Su} {rest : List Value} (h : RowAt w g E dk rest) (hs : d2.size = dk.size) (n : Nat) (os : Array Obj) : RowAt (sortWorldK encU 32 w g 0 n d2 os) g E d2 rest := by
  have hg : g < w.heap.size := Has.lt h
  unfold RowAt Has at h ⊢
  unfold sortWorldK putRowK
  rw [heap_grow_old _ _ (by simpa [putRow, mapBlock, Sort.ahead] using hg)]
  simp only [putRow, mapBlock, Sort.ahead, Array.getElem?_modify, h, onCells, if_true, Option.map_some]
  congr 2
  rw [flatU]
  unfold putCells
  have hl1 := rowU_len d2.toList
  have hl2 := rowU_len dk.toList
  have hz : d2.toList.length = dk.toList.length := by simpa using hs
  refine Array.ext (by simp [hl1, hl2, hz]) fun k h1 h2 => ?_
  simp only [Array.getElem_mapIdx, List.size_toArray, Nat.zero_add, Nat.zero_le, true_and, Nat.sub_zero, id]
  by_cases hk : k < (rowU d2.toList).length
  · rw [if_pos hk, getElem!_pos (rowU d2.toList).toArray k (by simpa using hk)]
    simp [List.getElem_append_left hk]
  · rw [if_neg hk]
    simp only [List.getElem_toArray]
    rw [List.getElem_append_right (by rw [hl2, ← hz, ← hl1]; omega), List.getElem_append_right (by omega)]
    congr 1
    rw [hl1, hl2, hz]
theorem below_sorted {w : World} {base g n : Nat} (hb : base ≤ g) (hs : base ≤ w.heap.size) (d : Array Su) (os : Array Obj) : Below base w (sortWorldK encU 32 w g 0 n d os) := by
  refine ⟨rfl, rfl, rfl, ?_, fun k hk => ?_⟩
  · unfold sortWorldK putRowK; show w.heap.size ≤ _; simp [grow, putRow, mapBlock, Sort.ahead]
  · unfold sortWorldK putRowK
    rw [heap_grow_old _ _ (by simp [putRow, mapBlock, Sort.ahead]; omega)]
    have : g ≠ k := by omega
    simp [putRow, mapBlock, Sort.ahead, Array.getElem?_modify, this]
theorem sortS_any (M : List Su) (g cap base : Nat) (hm : M.length ≤ 1000000) (w : World) (hO : OwnU w base 24 (.slice (some ⟨g, 0, none⟩) M.length cap) M) (hb : base ≤ w.heap.size) :
    Calls Tryd.prog 28 #[.slice (some ⟨g, 0, none⟩) M.length cap, .func (.func 29) #[] #[]] w fun e w' => e = .returned (.tuple #[]) ∧ OwnU w' base 24 (.slice (some ⟨g, 0, none⟩) M.length cap) (M.mergeSort fun x y => !(ltOf cmpU) y x) ∧ Below base w w' := by
  obtain ⟨rest, hR, hbg, hcap, hmax, hrest⟩ := hO.row
  have eg : ∀ args w, (callFunc 29 args).run Tryd.prog w = .ok (.enter 29 args) w := enters_of Tryd.func29 (by kernel_rfl) rfl
  have hcmp : CmpLays Tryd.prog 29 #[] encU 32 cmpU g 0 M.toArray.size w := fun m os dk _ x y => cmpg_any x.1 y.1 x.2 y.2 _
  have h := AnyQ.slices_SortFunc_total laysSortU 32 Tryd.isAgg24 Tryd.sizeOf24 encU encU_len encU_one cmpU swoU 29 #[] g 0 cap M.toArray w eg hcmp hR.holds (Has.lt hR) (by simp; omega) partedU
  have hz : M.toArray.size = M.length := by simp
  rw [hz] at h
  refine Calls.mono h fun e w' ⟨he, n, os, hw⟩ => ⟨he, ?_, ?_⟩
  · have hp := (sortU_facts M).1.length_eq
    have h2 := RowAt.sorted hR (d2 := (M.mergeSort fun x y => !(ltOf cmpU) y x).toArray) (by simp [hp]) n os
    rw [show M.toArray.toList = M from rfl] at hw
    rw [← hw] at h2
    have h3 := RowAt.own (base := base) h2 hbg (cap := cap) (by omega) hmax (by rw [hp]; exact hrest)
    rw [hp] at h3
    exact h3
  · rw [hw]; exact below_sorted hbg hb _ _
theorem sortNoneS (q : Option Addr) (c : Nat) (fv : Value) (w : World) : Calls Tryd.prog 28 #[.slice q 0 c, fv] w fun e w' => e = .returned (.tuple #[]) ∧ w' = w := AnyF.slices_SortFunc_none { laysSortU with } q c fv w
set_option maxHeartbeats 4000000 in
set_option maxRecDepth 100000 in
theorem cloneS_any (L : List Su) (q : Option Addr) (c : Nat) (hm : L.length ≤ 1000000) (w : World) (hs : Sees w w.heap.size q (rowU L)) :
    Calls Tryd.prog 27 #[.slice q L.length c] w fun e w' => (∃ v, e = .returned v ∧ OwnU w' w.heap.size 24 v L) ∧ Below w.heap.size w w' := by
  have HS := Lib.hid hs
  clear hs
  have hq := fun w a n c n' c' => Lib.run_eql_slice_nil (P := Tryd.prog) w 25 24 a n c n' c' Tryd.underlying25
  rcases q with _ | a
  · have h0 : L = [] := by
      rcases L with _ | ⟨y, L⟩
      · rfl
      · obtain ⟨a, h1, _⟩ := HS.out.get (by rw [rowU_len, List.length_cons]; omega)
        cases h1
    subst h0
    go_enter Tryd.func27, Tryd.ntmps27
    go_wp2_with fail
    go_ret
    exact ⟨⟨_, rfl, OwnU.nil _ _ _⟩, Below.refl _ _⟩
  · have HN := Lib.hid (run_none_su 25 24 elSum w)
    have HO := Lib.hid (OwnU.empty w w.heap.size 24 (Nat.le_refl _))
    have HB := Lib.hid ((Below.refl w.heap.size w).alloc (Nat.le_refl _) (.cells #[] 24))
    have HL : Hid (0 + L.length ≤ 4000000) := Lib.hid (by omega)
    have hrn := HN.out
    go_enter Tryd.func27, Tryd.ntmps27
    go_wp2_with (refine wpList_append_su rfl 25 24 elSum (.tmp 5) (.tmp 6) rfl w.heap.size _ [] rfl HO.out (some a) L L.length c w.heap.size rfl rfl (fun h => by cases h) (HS.out.keep HB.out) HL.out (by simp) ?_; intro v3 w3 h1 h2; have HO3 := Lib.hid h1; have HB3 := Lib.hid (HB.out.trans h2); clear h1 h2)
    go_ret
    exact ⟨⟨_, rfl, HO3.out⟩, HB3.out⟩
set_option maxHeartbeats 4000000 in
theorem setOf_any (L : List Su) (q : Option Addr) (c : Nat) (hm : L.length ≤ 1000000) (w : World) (hs : Sees w w.heap.size q (rowU L)) :
    Calls Tryd.prog 7 #[.slice q L.length c] w fun e w' => (∃ v, e = .returned v ∧ OwnU w' w.heap.size 24 v (srt L)) ∧ Below w.heap.size w w' := by
  have HC := Lib.hid (cloneS_any L q c hm w hs)
  clear hs
  go_enter Tryd.func7, Tryd.ntmps7
  go_upto_region 2 with ((with_reducible refine HC.out.mono ?_); rintro e w1 ⟨⟨v1, rfl, h1⟩, h2⟩; have HO1 := Lib.hid h1; have HB1 := Lib.hid h2; clear h1 h2)
  rcases HO1.out.2 with ⟨rfl, h0⟩ | ⟨g, cap, cur, rfl, hg⟩
  · have hL : L = [] := List.eq_nil_of_length_eq_zero h0
    subst hL
    clear HO1 HC
    have HCS : Hid (∀ w1, Calls Tryd.prog 30 #[.slice none 0 0] w1 fun e w' => e = .returned (.slice none 0 0) ∧ w' = w1) := Lib.hid (fun w1 => compactS_short [] none 0 (by decide) w1)
    go_wp2_with (first | ((with_reducible refine (sortNoneS _ _ _ _).mono ?_); rintro e w2 ⟨rfl, rfl⟩) | ((with_reducible refine (HCS.out _).mono ?_); rintro e w2 ⟨rfl, rfl⟩))
    go_ret
    exact ⟨⟨_, rfl, OwnU.nil _ _ _⟩, HB1.out⟩
  · have HS := Lib.hid (sortS_any L g cap w.heap.size hm w1 HO1.out HB1.out.size)
    have HLM : Hid ((L.mergeSort fun x y => !(ltOf cmpU) y x).length = L.length) := Lib.hid (sortU_facts L).1.length_eq
    have HFIN : Hid (Lib.compact (L.mergeSort fun x y => !(ltOf cmpU) y x) = srt L) := Lib.hid (of_srt L)
    generalize (L.mergeSort fun x y => !(ltOf cmpU) y x) = M at *
    clear hg HO1 HC
    have HCO : Hid (∀ w2, OwnU w2 w.heap.size 24 (.slice (some ⟨g, 0, none⟩) L.length cap) M → Calls Tryd.prog 30 #[.slice (some ⟨g, 0, none⟩) L.length cap] w2 fun e w' => e = .returned (.slice (some ⟨g, 0, none⟩) (srt L).length cap) ∧ OwnU w' w.heap.size 24 (.slice (some ⟨g, 0, none⟩) (srt L).length cap) (srt L) ∧ Below w.heap.size w2 w') := Lib.hid (fun w2 h => by
      have h2 := compactS_any M g cap w.heap.size (by rw [HLM.out]; exact hm) w2 (by rw [HLM.out]; exact h)
      rw [HLM.out, HFIN.out] at h2
      exact h2)
    clear HLM HFIN
    go_wp2_with (first | ((with_reducible refine HS.out.mono ?_); rintro e w2 ⟨rfl, h1, h2⟩; have HO2 := Lib.hid h1; have HB2 := Lib.hid (HB1.out.trans h2); clear h1 h2) | ((with_reducible refine (HCO.out _ HO2.out).mono ?_); rintro e w3 ⟨rfl, h1, h2⟩; have HO3 := Lib.hid h1; have HB3 := Lib.hid (HB2.out.trans h2); clear h1 h2))
    go_ret
    exact ⟨⟨_, rfl, HO3.out⟩, HB3.out⟩
set_option maxHeartbeats 4000000 in
theorem inOrder_any (L : List Su) (q : Option Addr) (c : Nat) (hm : L.length ≤ 1000000) (hc : L.length ≤ c) (hq : q = none → c = 0) (w : World) (hs : Sees w w.heap.size q (rowU L)) :
    Calls Tryd.prog 36 #[.slice q L.length c] w fun e w' => (∃ v, e = .returned v ∧ Us w' v (srt L)) ∧ Below w.heap.size w w' := by
  have HR := Lib.hid (rises_any L q c (by omega) w hs)
  have HF : Hid (∀ w1, Below w.heap.size w w1 → Calls Tryd.prog 7 #[.slice q L.length c] w1 fun e w' => (∃ v, e = .returned v ∧ OwnU w' w1.heap.size 24 v (srt L)) ∧ Below w1.heap.size w1 w') := Lib.hid (fun w1 hb => setOf_any L q c hm w1 ((hs.keep hb).more hb.size))
  have HS := Lib.hid hs
  clear hs
  by_cases ha : AscU L
  · rw [decide_eq_true ha] at HR
    have HE := Lib.hid (srt_asc ha)
    clear ha HF
    go_enter Tryd.func36, Tryd.ntmps36
    go_wp2_with ((with_reducible refine HR.out.mono ?_); rintro e w1 ⟨rfl, h1⟩; have HB1 := Lib.hid h1; clear h1)
    go_ret
    refine ⟨⟨_, rfl, ?_⟩, HB1.out⟩
    rw [HE.out]
    exact ⟨q, c, rfl, hc, hq, (HS.out.keep HB1.out).more HB1.out.size⟩
  · rw [decide_eq_false ha] at HR
    clear ha HS
    go_enter Tryd.func36, Tryd.ntmps36
    go_wp2_with (first | ((with_reducible refine HR.out.mono ?_); rintro e w1 ⟨rfl, h1⟩; have HB1 := Lib.hid h1; clear h1) | ((with_reducible refine (HF.out _ HB1.out).mono ?_); rintro e w2 ⟨⟨v2, rfl, h1⟩, h2⟩; have HO2 := Lib.hid h1; have HB2 := Lib.hid (HB1.out.trans (h2.mono HB1.out.size)); clear h1 h2))
    go_ret
    exact ⟨⟨_, rfl, HO2.out.us⟩, HB2.out⟩
end Go.Proofs.YtlidoikpfodpeaaDoor
/- Contracts: package set's least, merge with each of its three keeps, Minus, Both, Either. Condition: at most 10^6 sums each. -/
namespace Go.Proofs.YtlidoikpfodpeaaDoor
open Go.RowKit
theorem results_three {fn : Func} {p u v : Tmp} {ty : TypeId} (h : fn.results = #[.cell p ty, .tmp u, .tmp v]) (tmps : Array Value) (w : World) (g : Nat) (t : TypeId) (cs : Array Value) (fr : Nat × Nat)
    (hp : tmps.getD p undef = .pointer (some ⟨g, 0, none⟩)) (hg : w.heap[g]? = some (.cells cs t fr)) (x y : Value) (hx : tmps.getD u undef = x) (hy : tmps.getD v undef = y)
    (hu : Tryd.prog.underlying ty = some (.array 32 5)) (hi : (Tryd.prog.info? ty).map (·.size) = some cs.size) :
    (results fn tmps).run Tryd.prog w = .ok (.tuple #[.agg cs, x, y]) w := by
  have hp' : tmps[p]?.getD undef = .pointer (some ⟨g, 0, none⟩) := by simpa using hp
  have hx' : tmps[u]?.getD undef = x := by simpa using hx
  have hy' : tmps[v]?.getD undef = y := by simpa using hy
  simp [results, h, hp', hx', hy', asAddr, run_loadVar_row w g t ty cs fr _ hg hu rfl hi]
def zrU : List Value := List.replicate 32 (.int .u8 0)
theorem zrU_len : zrU.length = 32 := rfl
theorem Us.parts {w : World} {q : Option Addr} {n c : Nat} {L : List Su} (hn : n = L.length) (hc : L.length ≤ c) (hq : q = none → c = 0) (hs : Sees w w.heap.size q (rowU L)) : Us w (.slice q n c) L := by
  subst hn; exact ⟨q, c, rfl, hc, hq, hs⟩
def tlQ (q : Option Addr) (c : Nat) : Option Addr := if c = 1 then q else q.map (·.add 32)
theorem cut1_su (T E : TypeId) (hT : ElT T E) (q : Option Addr) (n c : Nat) (hk : 1 ≤ n) (w : World) :
    (Instr.slice T (.slice q n c) (some (.int .i64 1)) none none).run Tryd.prog w = .ok (.slice (tlQ q c) (n - 1) (c - 1)) w := by
  have := cut_su T E hT q n c 1 hk w
  rw [Nat.one_mul] at this
  exact this
theorem tl_us {w : World} {q : Option Addr} {c : Nat} {L : List Su} (h0 : 0 < L.length) (hc : L.length ≤ c) (hq : q = none → c = 0) (hs : Sees w w.heap.size q (rowU L)) : Us w (.slice (tlQ q c) (L.length - 1) (c - 1)) L.tail := by
  have h1 := Sees.cutU (c := c) (k := 1) hs hc
  rw [Nat.one_mul, List.drop_one] at h1
  refine Us.parts (by rw [List.length_tail]) (by rw [List.length_tail]; omega) (fun h => ?_) h1
  have := cutU_none (k := 1) (n := 32) hq h
  omega
set_option maxHeartbeats 4000000 in
set_option maxRecDepth 100000 in
theorem least_left (w : World) (A B : List Su) (qa qb : Option Addr) (ca cb : Nat) (hA : A.length = 0) (y : Su) (a : Addr) (hqb : qb = some a) (hB : 0 < B.length) (hy : ∀ w', Below w.heap.size w w' → ∀ j u, (encU y)[j]? = some u → w'.cell? (a.add j) = some u) :
    Calls Tryd.prog 48 #[.slice qa A.length ca, .slice qb B.length cb] w fun e w' => e = .returned (.tuple #[aggU y, .bool false, .bool true]) ∧ Below w.heap.size w w' := by
  subst hqb
  have hA0 : (A.length : Int) = 0 := by omega
  have hB0 : (0 : Int) < (B.length : Int) := by omega
  have HY0 := Lib.hid hy
  clear hy
  have hR := Lib.hid ((Below.refl w.heap.size w).alloc (Nat.le_refl _) (.cells zrU.toArray 24))
  have HZ : Hid (Has (w.alloc (.cells zrU.toArray 24)) w.heap.size 24 zrU) := Lib.hid (Has.made' w _ _ _ rfl)
  go_enter Tryd.func48, Tryd.ntmps48
  have HY := Lib.hid (HY0.out _ hR.out)
  have hz : a.add (0 * 32) = a := by simp [Addr.add]
  go_wp2_with (first | (refine wpList_load_su rfl 24 (.tmp 13) rfl _ rfl elSum.2.1 szSum y HY.out ?_) | (refine wpList_store_row rfl 24 (.tmp 4) (.tmp 14) rfl w.heap.size (encU y).toArray rfl rfl 24 _ HZ.out (by rw [encU_size]; exact szSum) (by rw [encU_size]; rfl) (encU_all y) ?_))
  refine bodyPost_ret (v := .tuple #[aggU y, .bool false, .bool true]) ?_ rfl ⟨rfl, below_row hR.out (Nat.le_refl _) _⟩
  exact results_three rfl _ _ w.heap.size 24 _ (0, 0) rfl (Has.rowl HZ.out _) _ _ rfl rfl Tryd.underlying24 (by rw [encU_size]; exact szSum)
set_option maxHeartbeats 4000000 in
set_option maxRecDepth 100000 in
theorem least_right (w : World) (A B : List Su) (qa qb : Option Addr) (ca cb : Nat) (hA : 0 < A.length) (x : Su) (a : Addr) (hqa : qa = some a) (hB : B.length = 0) (hx : ∀ w', Below w.heap.size w w' → ∀ j u, (encU x)[j]? = some u → w'.cell? (a.add j) = some u) :
    Calls Tryd.prog 48 #[.slice qa A.length ca, .slice qb B.length cb] w fun e w' => e = .returned (.tuple #[aggU x, .bool true, .bool false]) ∧ Below w.heap.size w w' := by
  subst hqa
  have hA0 : ¬ (A.length : Int) = 0 := by omega
  have hA1 : (0 : Int) < (A.length : Int) := by omega
  have hB0 : (B.length : Int) = 0 := by omega
  have HX0 := Lib.hid hx
  clear hx
  have hR := Lib.hid ((Below.refl w.heap.size w).alloc (Nat.le_refl _) (.cells zrU.toArray 24))
  have HZ : Hid (Has (w.alloc (.cells zrU.toArray 24)) w.heap.size 24 zrU) := Lib.hid (Has.made' w _ _ _ rfl)
  go_enter Tryd.func48, Tryd.ntmps48
  have HX := Lib.hid (HX0.out _ hR.out)
  go_wp2_with (first | (refine wpList_load_su rfl 24 (.tmp 20) rfl _ rfl elSum.2.1 szSum x HX.out ?_) | (refine wpList_store_row rfl 24 (.tmp 4) (.tmp 21) rfl w.heap.size (encU x).toArray rfl rfl 24 _ HZ.out (by rw [encU_size]; exact szSum) (by rw [encU_size]; rfl) (encU_all x) ?_))
  refine bodyPost_ret (v := .tuple #[aggU x, .bool true, .bool false]) ?_ rfl ⟨rfl, below_row hR.out (Nat.le_refl _) _⟩
  exact results_three rfl _ _ w.heap.size 24 _ (0, 0) rfl (Has.rowl HZ.out _) _ _ rfl rfl Tryd.underlying24 (by rw [encU_size]; exact szSum)
set_option maxHeartbeats 4000000 in
set_option maxRecDepth 100000 in
theorem least_lt (w : World) (A B : List Su) (qa qb : Option Addr) (ca cb : Nat) (hA : 0 < A.length) (hB : 0 < B.length) (x y : Su) (a b : Addr) (hqa : qa = some a) (hqb : qb = some b) (hc : cmpU x y = -1) (hx : ∀ w', Below w.heap.size w w' → ∀ j u, (encU x)[j]? = some u → w'.cell? (a.add j) = some u) (hy : ∀ w', Below w.heap.size w w' → ∀ j u, (encU y)[j]? = some u → w'.cell? (b.add j) = some u) :
    Calls Tryd.prog 48 #[.slice qa A.length ca, .slice qb B.length cb] w fun e w' => e = .returned (.tuple #[aggU x, .bool true, .bool false]) ∧ Below w.heap.size w w' := by
  subst hqa hqb
  have hA0 : ¬ (A.length : Int) = 0 := by omega
  have hA1 : (0 : Int) < (A.length : Int) := by omega
  have hB0 : ¬ (B.length : Int) = 0 := by omega
  have hB1 : (0 : Int) < (B.length : Int) := by omega
  have HX0 := Lib.hid hx
  have HY0 := Lib.hid hy
  have HC := Lib.hid (fun w1 => cmpS_any x y w1)
  rw [hc] at HC
  clear hx hy hc
  have hR := Lib.hid ((Below.refl w.heap.size w).alloc (Nat.le_refl _) (.cells zrU.toArray 24))
  have HZ : Hid (Has (w.alloc (.cells zrU.toArray 24)) w.heap.size 24 zrU) := Lib.hid (Has.made' w _ _ _ rfl)
  go_enter Tryd.func48, Tryd.ntmps48
  clear hR HZ
  go_wp2_with fail
  generalize hw0 : w.alloc _ = w0
  have hR : Hid (Below w.heap.size w w0) := Lib.hid (by subst hw0; exact (Below.refl _ _).alloc (Nat.le_refl _) _)
  have HZ : Hid (Has w0 w.heap.size 24 zrU) := Lib.hid (by subst hw0; exact Has.made' _ _ _ _ rfl)
  clear hw0
  refine wp_region_org [(0, true), (1, true), (2, true), (3, true), (4, true), (5, true), (6, false), (7, true)] (by kernel_rfl) (by kernel_rfl) (by kernel_rfl) ?_
  replace hR := Lib.hid hR.out.drew
  replace HZ := Lib.hid HZ.out.drew
  generalize w0.drew = wd at *
  simp only [pickOrs, List.getElem?_cons_zero, List.getElem?_cons_succ]
  refine org_pure (v := ?_) (by kernel_rfl) ?_ ?_
  rotate_left
  · intro w' hv; clear hv; go_simp; try with_reducible rfl
  try simp only [Act.put, List.setIfInBounds_toArray, List.set_cons_zero, List.set_cons_succ]
  refine org_pure (v := ?_) (by kernel_rfl) ?_ ?_
  rotate_left
  · intro w' hv; clear hv; go_simp; try with_reducible rfl
  try simp only [Act.put, List.setIfInBounds_toArray, List.set_cons_zero, List.set_cons_succ]
  refine org_pure (by kernel_rfl) (fun w' hv => load_su 24 (.tmp 23) rfl _ rfl elSum.2.1 szSum x ((fun w' hv => HX0.out w' (hR.out.trans (Below.mono hv hR.out.size))) w' hv)) ?_
  try simp only [Act.put, List.setIfInBounds_toArray, List.set_cons_zero, List.set_cons_succ]
  refine org_pure (v := ?_) (by kernel_rfl) ?_ ?_
  rotate_left
  · intro w' hv; clear hv; go_simp; try with_reducible rfl
  try simp only [Act.put, List.setIfInBounds_toArray, List.set_cons_zero, List.set_cons_succ]
  refine org_pure (v := ?_) (by kernel_rfl) ?_ ?_
  rotate_left
  · intro w' hv; clear hv; go_simp; try with_reducible rfl
  try simp only [Act.put, List.setIfInBounds_toArray, List.set_cons_zero, List.set_cons_succ]
  refine org_pure (by kernel_rfl) (fun w' hv => load_su 24 (.tmp 26) rfl _ rfl elSum.2.1 szSum y ((fun w' hv => HY0.out w' (hR.out.trans (Below.mono hv hR.out.size))) w' hv)) ?_
  try simp only [Act.put, List.setIfInBounds_toArray, List.set_cons_zero, List.set_cons_succ]
  refine org_step (by kernel_rfl) (fun K hK => ?_)
  go_wp2_with fail
  refine (HC.out _).mono ?_
  rintro e wx ⟨rfl, hb⟩
  have HE := Lib.hid hb
  clear hb
  refine hK _ _ ⟨HE.out, ?_⟩
  clear hK
  try simp only [Act.put, List.setIfInBounds_toArray, List.set_cons_zero, List.set_cons_succ]
  refine org_pure (v := ?_) (by kernel_rfl) ?_ ?_
  rotate_left
  · intro w' hv; clear hv; go_simp; try with_reducible rfl
  try simp only [Act.put, List.setIfInBounds_toArray, List.set_cons_zero, List.set_cons_succ]
  refine org_nil ?_
  replace HZ := Lib.hid (HZ.out.keep HE.out HZ.out.lt)
  replace hR := Lib.hid (hR.out.trans (HE.out.mono hR.out.size))
  have HS := Lib.hid (HX0.out _ hR.out)
  go_wp2_with (first | (refine wpList_load_su rfl 24 (.tmp 32) rfl _ rfl elSum.2.1 szSum x HS.out ?_) | (refine wpList_store_row rfl 24 (.tmp 4) (.tmp 33) rfl w.heap.size (encU x).toArray rfl rfl 24 _ HZ.out (by rw [encU_size]; exact szSum) (by rw [encU_size]; rfl) (encU_all x) ?_))
  refine bodyPost_ret (v := .tuple #[aggU x, .bool true, .bool false]) ?_ rfl ⟨rfl, below_row hR.out (Nat.le_refl _) _⟩
  exact results_three rfl _ _ w.heap.size 24 _ (0, 0) rfl (Has.rowl HZ.out _) _ _ rfl rfl Tryd.underlying24 (by rw [encU_size]; exact szSum)
set_option maxHeartbeats 4000000 in
set_option maxRecDepth 100000 in
theorem least_eq (w : World) (A B : List Su) (qa qb : Option Addr) (ca cb : Nat) (hA : 0 < A.length) (hB : 0 < B.length) (x y : Su) (a b : Addr) (hqa : qa = some a) (hqb : qb = some b) (hc : cmpU x y = 0) (hx : ∀ w', Below w.heap.size w w' → ∀ j u, (encU x)[j]? = some u → w'.cell? (a.add j) = some u) (hy : ∀ w', Below w.heap.size w w' → ∀ j u, (encU y)[j]? = some u → w'.cell? (b.add j) = some u) :
    Calls Tryd.prog 48 #[.slice qa A.length ca, .slice qb B.length cb] w fun e w' => e = .returned (.tuple #[aggU x, .bool true, .bool true]) ∧ Below w.heap.size w w' := by
  subst hqa hqb
  have hA0 : ¬ (A.length : Int) = 0 := by omega
  have hA1 : (0 : Int) < (A.length : Int) := by omega
  have hB0 : ¬ (B.length : Int) = 0 := by omega
  have hB1 : (0 : Int) < (B.length : Int) := by omega
  have HX0 := Lib.hid hx
  have HY0 := Lib.hid hy
  have HC := Lib.hid (fun w1 => cmpS_any x y w1)
  rw [hc] at HC
  clear hx hy hc
  have hR := Lib.hid ((Below.refl w.heap.size w).alloc (Nat.le_refl _) (.cells zrU.toArray 24))
  have HZ : Hid (Has (w.alloc (.cells zrU.toArray 24)) w.heap.size 24 zrU) := Lib.hid (Has.made' w _ _ _ rfl)
  go_enter Tryd.func48, Tryd.ntmps48
  clear hR HZ
  go_wp2_with fail
  generalize hw0 : w.alloc _ = w0
  have hR : Hid (Below w.heap.size w w0) := Lib.hid (by subst hw0; exact (Below.refl _ _).alloc (Nat.le_refl _) _)
  have HZ : Hid (Has w0 w.heap.size 24 zrU) := Lib.hid (by subst hw0; exact Has.made' _ _ _ _ rfl)
  clear hw0
  refine wp_region_org [(0, true), (1, true), (2, true), (3, true), (4, true), (5, true), (6, false), (7, true)] (by kernel_rfl) (by kernel_rfl) (by kernel_rfl) ?_
  replace hR := Lib.hid hR.out.drew
  replace HZ := Lib.hid HZ.out.drew
  generalize w0.drew = wd at *
  simp only [pickOrs, List.getElem?_cons_zero, List.getElem?_cons_succ]
  refine org_pure (v := ?_) (by kernel_rfl) ?_ ?_
  rotate_left
  · intro w' hv; clear hv; go_simp; try with_reducible rfl
  try simp only [Act.put, List.setIfInBounds_toArray, List.set_cons_zero, List.set_cons_succ]
  refine org_pure (v := ?_) (by kernel_rfl) ?_ ?_
  rotate_left
  · intro w' hv; clear hv; go_simp; try with_reducible rfl
  try simp only [Act.put, List.setIfInBounds_toArray, List.set_cons_zero, List.set_cons_succ]
  refine org_pure (by kernel_rfl) (fun w' hv => load_su 24 (.tmp 23) rfl _ rfl elSum.2.1 szSum x ((fun w' hv => HX0.out w' (hR.out.trans (Below.mono hv hR.out.size))) w' hv)) ?_
  try simp only [Act.put, List.setIfInBounds_toArray, List.set_cons_zero, List.set_cons_succ]
  refine org_pure (v := ?_) (by kernel_rfl) ?_ ?_
  rotate_left
  · intro w' hv; clear hv; go_simp; try with_reducible rfl
  try simp only [Act.put, List.setIfInBounds_toArray, List.set_cons_zero, List.set_cons_succ]
  refine org_pure (v := ?_) (by kernel_rfl) ?_ ?_
  rotate_left
  · intro w' hv; clear hv; go_simp; try with_reducible rfl
  try simp only [Act.put, List.setIfInBounds_toArray, List.set_cons_zero, List.set_cons_succ]
  refine org_pure (by kernel_rfl) (fun w' hv => load_su 24 (.tmp 26) rfl _ rfl elSum.2.1 szSum y ((fun w' hv => HY0.out w' (hR.out.trans (Below.mono hv hR.out.size))) w' hv)) ?_
  try simp only [Act.put, List.setIfInBounds_toArray, List.set_cons_zero, List.set_cons_succ]
  refine org_step (by kernel_rfl) (fun K hK => ?_)
  go_wp2_with fail
  refine (HC.out _).mono ?_
  rintro e wx ⟨rfl, hb⟩
  have HE := Lib.hid hb
  clear hb
  refine hK _ _ ⟨HE.out, ?_⟩
  clear hK
  try simp only [Act.put, List.setIfInBounds_toArray, List.set_cons_zero, List.set_cons_succ]
  refine org_pure (v := ?_) (by kernel_rfl) ?_ ?_
  rotate_left
  · intro w' hv; clear hv; go_simp; try with_reducible rfl
  try simp only [Act.put, List.setIfInBounds_toArray, List.set_cons_zero, List.set_cons_succ]
  refine org_nil ?_
  replace HZ := Lib.hid (HZ.out.keep HE.out HZ.out.lt)
  replace hR := Lib.hid (hR.out.trans (HE.out.mono hR.out.size))
  have HS := Lib.hid (HX0.out _ hR.out)
  go_wp2_with (first | (refine wpList_load_su rfl 24 (.tmp 32) rfl _ rfl elSum.2.1 szSum x HS.out ?_) | (refine wpList_store_row rfl 24 (.tmp 4) (.tmp 33) rfl w.heap.size (encU x).toArray rfl rfl 24 _ HZ.out (by rw [encU_size]; exact szSum) (by rw [encU_size]; rfl) (encU_all x) ?_))
  refine bodyPost_ret (v := .tuple #[aggU x, .bool true, .bool true]) ?_ rfl ⟨rfl, below_row hR.out (Nat.le_refl _) _⟩
  exact results_three rfl _ _ w.heap.size 24 _ (0, 0) rfl (Has.rowl HZ.out _) _ _ rfl rfl Tryd.underlying24 (by rw [encU_size]; exact szSum)
set_option maxHeartbeats 4000000 in
set_option maxRecDepth 100000 in
theorem least_gt (w : World) (A B : List Su) (qa qb : Option Addr) (ca cb : Nat) (hA : 0 < A.length) (hB : 0 < B.length) (x y : Su) (a b : Addr) (hqa : qa = some a) (hqb : qb = some b) (hc : cmpU x y = 1) (hx : ∀ w', Below w.heap.size w w' → ∀ j u, (encU x)[j]? = some u → w'.cell? (a.add j) = some u) (hy : ∀ w', Below w.heap.size w w' → ∀ j u, (encU y)[j]? = some u → w'.cell? (b.add j) = some u) :
    Calls Tryd.prog 48 #[.slice qa A.length ca, .slice qb B.length cb] w fun e w' => e = .returned (.tuple #[aggU y, .bool false, .bool true]) ∧ Below w.heap.size w w' := by
  subst hqa hqb
  have hA0 : ¬ (A.length : Int) = 0 := by omega
  have hA1 : (0 : Int) < (A.length : Int) := by omega
  have hB0 : ¬ (B.length : Int) = 0 := by omega
  have hB1 : (0 : Int) < (B.length : Int) := by omega
  have HX0 := Lib.hid hx
  have HY0 := Lib.hid hy
  have HC := Lib.hid (fun w1 => cmpS_any x y w1)
  rw [hc] at HC
  clear hx hy hc
  have hR := Lib.hid ((Below.refl w.heap.size w).alloc (Nat.le_refl _) (.cells zrU.toArray 24))
  have HZ : Hid (Has (w.alloc (.cells zrU.toArray 24)) w.heap.size 24 zrU) := Lib.hid (Has.made' w _ _ _ rfl)
  go_enter Tryd.func48, Tryd.ntmps48
  clear hR HZ
  go_wp2_with fail
  generalize hw0 : w.alloc _ = w0
  have hR : Hid (Below w.heap.size w w0) := Lib.hid (by subst hw0; exact (Below.refl _ _).alloc (Nat.le_refl _) _)
  have HZ : Hid (Has w0 w.heap.size 24 zrU) := Lib.hid (by subst hw0; exact Has.made' _ _ _ _ rfl)
  clear hw0
  refine wp_region_org [(0, true), (1, true), (2, true), (3, true), (4, true), (5, true), (6, false), (7, true)] (by kernel_rfl) (by kernel_rfl) (by kernel_rfl) ?_
  replace hR := Lib.hid hR.out.drew
  replace HZ := Lib.hid HZ.out.drew
  generalize w0.drew = wd at *
  simp only [pickOrs, List.getElem?_cons_zero, List.getElem?_cons_succ]
  refine org_pure (v := ?_) (by kernel_rfl) ?_ ?_
  rotate_left
  · intro w' hv; clear hv; go_simp; try with_reducible rfl
  try simp only [Act.put, List.setIfInBounds_toArray, List.set_cons_zero, List.set_cons_succ]
  refine org_pure (v := ?_) (by kernel_rfl) ?_ ?_
  rotate_left
  · intro w' hv; clear hv; go_simp; try with_reducible rfl
  try simp only [Act.put, List.setIfInBounds_toArray, List.set_cons_zero, List.set_cons_succ]
  refine org_pure (by kernel_rfl) (fun w' hv => load_su 24 (.tmp 23) rfl _ rfl elSum.2.1 szSum x ((fun w' hv => HX0.out w' (hR.out.trans (Below.mono hv hR.out.size))) w' hv)) ?_
  try simp only [Act.put, List.setIfInBounds_toArray, List.set_cons_zero, List.set_cons_succ]
  refine org_pure (v := ?_) (by kernel_rfl) ?_ ?_
  rotate_left
  · intro w' hv; clear hv; go_simp; try with_reducible rfl
  try simp only [Act.put, List.setIfInBounds_toArray, List.set_cons_zero, List.set_cons_succ]
  refine org_pure (v := ?_) (by kernel_rfl) ?_ ?_
  rotate_left
  · intro w' hv; clear hv; go_simp; try with_reducible rfl
  try simp only [Act.put, List.setIfInBounds_toArray, List.set_cons_zero, List.set_cons_succ]
  refine org_pure (by kernel_rfl) (fun w' hv => load_su 24 (.tmp 26) rfl _ rfl elSum.2.1 szSum y ((fun w' hv => HY0.out w' (hR.out.trans (Below.mono hv hR.out.size))) w' hv)) ?_
  try simp only [Act.put, List.setIfInBounds_toArray, List.set_cons_zero, List.set_cons_succ]
  refine org_step (by kernel_rfl) (fun K hK => ?_)
  go_wp2_with fail
  refine (HC.out _).mono ?_
  rintro e wx ⟨rfl, hb⟩
  have HE := Lib.hid hb
  clear hb
  refine hK _ _ ⟨HE.out, ?_⟩
  clear hK
  try simp only [Act.put, List.setIfInBounds_toArray, List.set_cons_zero, List.set_cons_succ]
  refine org_pure (v := ?_) (by kernel_rfl) ?_ ?_
  rotate_left
  · intro w' hv; clear hv; go_simp; try with_reducible rfl
  try simp only [Act.put, List.setIfInBounds_toArray, List.set_cons_zero, List.set_cons_succ]
  refine org_nil ?_
  replace HZ := Lib.hid (HZ.out.keep HE.out HZ.out.lt)
  replace hR := Lib.hid (hR.out.trans (HE.out.mono hR.out.size))
  have HS := Lib.hid (HY0.out _ hR.out)
  go_wp2_with (first | (refine wpList_load_su rfl 24 (.tmp 37) rfl _ rfl elSum.2.1 szSum y HS.out ?_) | (refine wpList_store_row rfl 24 (.tmp 4) (.tmp 38) rfl w.heap.size (encU y).toArray rfl rfl 24 _ HZ.out (by rw [encU_size]; exact szSum) (by rw [encU_size]; rfl) (encU_all y) ?_))
  refine bodyPost_ret (v := .tuple #[aggU y, .bool false, .bool true]) ?_ rfl ⟨rfl, below_row hR.out (Nat.le_refl _) _⟩
  exact results_three rfl _ _ w.heap.size 24 _ (0, 0) rfl (Has.rowl HZ.out _) _ _ rfl rfl Tryd.underlying24 (by rw [encU_size]; exact szSum)
theorem least_any (A B : List Su) (qa qb : Option Addr) (ca cb : Nat) (h : ¬ (A = [] ∧ B = [])) (w : World) (ha : Sees w w.heap.size qa (rowU A)) (hb : Sees w w.heap.size qb (rowU B)) :
    Calls Tryd.prog 48 #[.slice qa A.length ca, .slice qb B.length cb] w fun e w' => e = .returned (.tuple #[aggU (leastU A B).1, .bool (leastU A B).2.1, .bool (leastU A B).2.2]) ∧ Below w.heap.size w w' := by
  have z : ∀ a : Addr, a.add (0 * 32) = a := fun a => by simp [Addr.add]
  match A, B, h, ha, hb with
  | [], [], h, _, _ => exact absurd ⟨rfl, rfl⟩ h
  | [], y :: B, _, _, hb =>
    obtain ⟨a, e, _, hc⟩ := Ss.el hb (i := 0) (by simp)
    exact least_left w [] (y :: B) qa qb ca cb rfl y a e (by simp) (fun w' hw => by have := hc w' hw; rw [z] at this; exact this)
  | x :: A, [], _, ha, _ =>
    obtain ⟨a, e, _, hc⟩ := Ss.el ha (i := 0) (by simp)
    exact least_right w (x :: A) [] qa qb ca cb (by simp) x a e rfl (fun w' hw => by have := hc w' hw; rw [z] at this; exact this)
  | x :: A, y :: B, _, ha, hb =>
    obtain ⟨a, e, _, hc⟩ := Ss.el ha (i := 0) (by simp)
    obtain ⟨b, e2, _, hc2⟩ := Ss.el hb (i := 0) (by simp)
    have h1 := fun w' (hw : Below w.heap.size w w') => by have := hc w' hw; rw [z] at this; exact this
    have h2 := fun w' (hw : Below w.heap.size w w') => by have := hc2 w' hw; rw [z] at this; exact this
    rcases cmpU_vals x y with hv | hv | hv
    · have hl : leastU (x :: A) (y :: B) = (x, true, false) := by show (if cmpU x y ≤ 0 then _ else _) = _; rw [if_pos (by omega), hv]; rfl
      rw [hl]
      exact least_lt w (x :: A) (y :: B) qa qb ca cb (by simp) (by simp) x y a b e e2 hv h1 h2
    · have hl : leastU (x :: A) (y :: B) = (x, true, true) := by show (if cmpU x y ≤ 0 then _ else _) = _; rw [if_pos (by omega), hv]; rfl
      rw [hl]
      exact least_eq w (x :: A) (y :: B) qa qb ca cb (by simp) (by simp) x y a b e e2 hv h1 h2
    · have hl : leastU (x :: A) (y :: B) = (y, false, true) := by show (if cmpU x y ≤ 0 then _ else _) = _; rw [if_neg (by omega)]
      rw [hl]
      exact least_gt w (x :: A) (y :: B) qa qb ca cb (by simp) (by simp) x y a b e e2 hv h1 h2
end Go.Proofs.YtlidoikpfodpeaaDoor
/- Contracts: package set's merge with each of its three keeps, Minus, Both, Either, Add. Condition: at most 10^6 sums each. -/
namespace Go.Proofs.YtlidoikpfodpeaaDoor
open Go.RowKit
/-- The value reads as these sums, in blocks below b. -/
def UsB (b : Nat) (w : World) (v : Value) (L : List Su) : Prop := ∃ q c, v = .slice q L.length c ∧ L.length ≤ c ∧ (q = none → c = 0) ∧ Sees w b q (rowU L)
theorem UsB.keep {b : Nat} {w w' : World} {v : Value} {L : List Su} (h : UsB b w v L) (hb : Below b w w') : UsB b w' v L := by
  obtain ⟨q, c, h1, h2, h3, h4⟩ := h
  exact ⟨q, c, h1, h2, h3, h4.keep hb⟩
theorem Us.b {w : World} {v : Value} {L : List Su} (h : Us w v L) : UsB w.heap.size w v L := h
theorem tl_usB {b : Nat} {w : World} {q : Option Addr} {c : Nat} {L : List Su} (h0 : 0 < L.length) (hc : L.length ≤ c) (hq : q = none → c = 0) (hs : Sees w b q (rowU L)) : UsB b w (.slice (tlQ q c) (L.length - 1) (c - 1)) L.tail := by
  have h1 := Sees.cutU (c := c) (k := 1) hs hc
  rw [Nat.one_mul, List.drop_one] at h1
  refine ⟨tlQ q c, c - 1, by rw [List.length_tail], by rw [List.length_tail]; omega, fun h => ?_, h1⟩
  have := cutU_none (k := 1) (n := 32) hq h
  omega
def lenV (v : Value) : Nat := match v with | .slice _ n _ => n | _ => 0
theorem keepMinus_any (a b : Bool) (w : World) : Calls Tryd.prog 35 #[.bool a, .bool b] w fun e w' => e = .returned (.bool (kMin a b)) ∧ w' = w := by
  cases a <;> cases b <;> (go_enter Tryd.func35, Tryd.ntmps35; go_wp2_with fail; go_ret; exact ⟨rfl, rfl⟩)
set_option maxHeartbeats 16000000 in
set_option maxRecDepth 100000 in
theorem mergeMinus_any (A B : List Su) (qa qb : Option Addr) (ca cb : Nat) (hA : A.length ≤ 1000000) (hB : B.length ≤ 1000000) (hca : A.length ≤ ca) (hcb : B.length ≤ cb) (hqa : qa = none → ca = 0) (hqb : qb = none → cb = 0) (w : World) (ha : Sees w w.heap.size qa (rowU A)) (hb : Sees w w.heap.size qb (rowU B)) :
    Calls Tryd.prog 34 #[.slice qa A.length ca, .slice qb B.length cb, .func (.func 35) #[] #[]] w fun e w' => (∃ v, e = .returned v ∧ OwnU w' w.heap.size 24 v (minU A B)) ∧ Below w.heap.size w w' := by
  have H1 := Lib.hid (inOrder_any A qa ca hA hca hqa w ha)
  have H2 : Hid (∀ w1, Below w.heap.size w w1 → Calls Tryd.prog 36 #[.slice qb B.length cb] w1 fun e w' => (∃ v, e = .returned v ∧ Us w' v (srt B)) ∧ Below w1.heap.size w1 w') := Lib.hid (fun w1 h => inOrder_any B qb cb hB hcb hqb w1 ((hb.keep h).more h.size))
  have hla := len_srt_le A
  have hlb := len_srt_le B
  have HR := Lib.hid (mrg_min A B)
  have HAA := Lib.hid (asc_srt A)
  have HAB := Lib.hid (asc_srt B)
  generalize srt A = A1 at *
  generalize srt B = B1 at *
  generalize minU A B = R at *
  clear ha hb hca hcb hqa hqb
  go_enter Tryd.func34, Tryd.ntmps34
  go_wp2_with (first
    | ((with_reducible refine H1.out.mono ?_); rintro e w1 ⟨⟨v1, rfl, h1⟩, h2⟩; have HU1 := Lib.hid h1; have HB1 := Lib.hid h2; clear h1 h2 H1)
    | ((with_reducible refine (H2.out _ HB1.out).mono ?_); rintro e w2 ⟨⟨v2, rfl, h1⟩, h2⟩; have HU2 := Lib.hid h1.b; have HU3 := Lib.hid (HU1.out.keep h2).b; have HB2 := Lib.hid (HB1.out.trans (h2.mono HB1.out.size)); clear h1 h2 H2))
  have HNIL := Lib.hid (OwnU.nil w2 w2.heap.size 24)
  have HSZ := Lib.hid HB2.out.size
  obtain ⟨b, hb⟩ : ∃ b, b = w2.heap.size := ⟨_, rfl⟩
  rw [← hb] at HU3 HU2 HNIL HSZ
  have HBE : Hid (b ≤ w2.heap.size) := Lib.hid (Nat.le_of_eq hb)
  have HBE : Hid (b ≤ w2.heap.size) := Lib.hid (Nat.le_of_eq hb)
  have HBE : Hid (b ≤ w2.heap.size) := Lib.hid (Nat.le_of_eq hb)
  have HW2 : Hid (Below b w2 w2) := Lib.hid (Below.refl _ _)
  clear hb HU1 HB1
  go_loopw [0, 1, 7] (fun v0 v1 v7 wr => ∃ (A2 B2 L : List Su) (n : Nat), UsB b wr v0 A2 ∧ UsB b wr v1 B2 ∧ AscU A2 ∧ AscU B2 ∧ OwnU wr b 24 v7 L ∧ L ++ mrgN kMin n A2 B2 = R ∧ A2.length + B2.length ≤ n ∧ L.length + n ≤ 2000000 ∧ Below b w2 wr ∧ b ≤ wr.heap.size) (fun v0 v1 _ _ => lenV v0 + lenV v1)
  case atStart => exact ⟨A1, B1, [], A1.length + B1.length, HU3.out, HU2.out, HAA.out, HAB.out, HNIL.out, HR.out, Nat.le_refl _, by simp; omega, HW2.out, HBE.out⟩
  case round =>
    clear HU2 HU3 HNIL HR HAA HAB HW2
    rename_i wr
    obtain ⟨A2, B2, L, n, ⟨qa2, ca2, rfl, hca2, hqa2, hsa⟩, ⟨qb2, cb2, rfl, hcb2, hqb2, hsb⟩, haA, haB, hown, heq, hn, hln, hB, hbz⟩ := hrel
    have HSA := Lib.hid hsa
    have HSB := Lib.hid hsb
    have HOWN := Lib.hid hown
    have HEQ := Lib.hid heq
    have HB := Lib.hid hB
    have HBZ := Lib.hid hbz
    clear hsa hsb hown heq hB hbz
    by_cases h0 : A2 = [] ∧ B2 = []
    · obtain ⟨rfl, rfl⟩ := h0
      have HE : Hid (R = L) := Lib.hid (by rw [← HEQ.out, mrgN_nil, List.append_nil])
      clear HSA HSB haA haB
      go_wp2_with fail
      go_ret
      refine ⟨⟨_, rfl, ?_⟩, HB2.out.trans (HB.out.mono HSZ.out)⟩
      rw [HE.out]
      exact HOWN.out.less HSZ.out
    · have HF := Lib.hid (least_fact haA haB h0)
      have HL := Lib.hid (least_any A2 B2 qa2 qb2 ca2 cb2 h0 wr (HSA.out.more HBZ.out) (HSB.out.more HBZ.out))
      obtain ⟨m, rfl⟩ : ∃ m, n = m + 1 := by
        have : 0 < n := by
          rcases A2 with _ | ⟨x, A2⟩
          · rcases B2 with _ | ⟨y, B2⟩
            · exact absurd ⟨rfl, rfl⟩ h0
            · simp at hn; omega
          · simp at hn; omega
        exact ⟨n - 1, by omega⟩
      have HST : Hid (mrgN kMin (m + 1) A2 B2 = (if kMin (leastU A2 B2).2.1 (leastU A2 B2).2.2 then [(leastU A2 B2).1] else []) ++ mrgN kMin m (if (leastU A2 B2).2.1 then A2.tail else A2) (if (leastU A2 B2).2.2 then B2.tail else B2)) := Lib.hid (by rw [mrgN, if_neg h0])
      have hg0 : 0 < A2.length ∨ (¬ 0 < A2.length ∧ 0 < B2.length) := by
        rcases A2 with _ | ⟨x, A2⟩
        · rcases B2 with _ | ⟨y, B2⟩
          · exact absurd ⟨rfl, rfl⟩ h0
          · exact .inr ⟨by simp, by simp⟩
        · exact .inl (by simp)
      generalize (leastU A2 B2).1 = x at *
      generalize (leastU A2 B2).2.1 = p at *
      generalize (leastU A2 B2).2.2 = q at *
      have HPA : Hid (p = true → 1 ≤ A2.length) := Lib.hid (fun hp => by
        have := HF.out.1
        rw [hp] at this
        exact List.length_pos_of_mem (of_decide_eq_true this.symm))
      have HPB : Hid (q = true → 1 ≤ B2.length) := Lib.hid (fun hp => by
        have := HF.out.2.1
        rw [hp] at this
        exact List.length_pos_of_mem (of_decide_eq_true this.symm))
      have HPQ : Hid (p = true ∨ q = true) := Lib.hid (by
        obtain ⟨f1, f2, f3, _⟩ := HF.out
        rcases f3 with h | h
        · left; rw [f1]; exact decide_eq_true h
        · right; rw [f2]; exact decide_eq_true h)
      have HCA := Lib.hid (fun h w' => cut1_su 26 24 elSet qa2 A2.length ca2 h w')
      have HCB := Lib.hid (fun h w' => cut1_su 26 24 elSet qb2 B2.length cb2 h w')
      have HAA := Lib.hid haA
      have HAB := Lib.hid haB
      have HTA : Hid (1 ≤ A2.length → ∀ w5, Below b wr w5 → UsB b w5 (.slice (tlQ qa2 ca2) (A2.length - 1) (ca2 - 1)) A2.tail) := Lib.hid (fun h w5 hb => tl_usB h hca2 hqa2 (HSA.out.keep hb))
      have HTB : Hid (1 ≤ B2.length → ∀ w5, Below b wr w5 → UsB b w5 (.slice (tlQ qb2 cb2) (B2.length - 1) (cb2 - 1)) B2.tail) := Lib.hid (fun h w5 hb => tl_usB h hcb2 hqb2 (HSB.out.keep hb))
      have HUA : Hid (∀ w5, Below b wr w5 → UsB b w5 (.slice qa2 A2.length ca2) A2) := Lib.hid (fun w5 hb => ⟨qa2, ca2, rfl, hca2, hqa2, HSA.out.keep hb⟩)
      have HUB : Hid (∀ w5, Below b wr w5 → UsB b w5 (.slice qb2 B2.length cb2) B2) := Lib.hid (fun w5 hb => ⟨qb2, cb2, rfl, hcb2, hqb2, HSB.out.keep hb⟩)
      have HTLA : Hid (A2.tail.length = A2.length - 1) := Lib.hid List.length_tail
      have HTLB : Hid (B2.tail.length = B2.length - 1) := Lib.hid List.length_tail
      clear HF h0 haA haB HSA HSB hca2 hcb2 hqa2 hqb2
      generalize hna : A2.length = na at *
      generalize hnb : B2.length = nb at *
      have HNA := Lib.hid hna
      have HNB := Lib.hid hnb
      clear hna hnb
      rcases hg0 with hu1 | ⟨hu1, hu2⟩
      · go_upto_region 5 with (first | ((with_reducible refine HL.out.mono ?_); rintro e w3 ⟨rfl, h1⟩; have HB3 := Lib.hid h1; clear h1 HL) | (refine wpList_store_row rfl 24 (.tmp 8) (.tmp 27) rfl w3.heap.size (encU x).toArray rfl rfl 24 zrU.toArray (heap_alloc_new _ _) (by rw [encU_size]; exact szSum) (by rw [encU_size]; rfl) (encU_all x) ?_))
        generalize hw4 : (w3.alloc _).setRow _ _ = w4
        have HX4 : Hid (Has w4 w3.heap.size 24 (encU x)) := Lib.hid (by subst hw4; exact Has.rowl (Has.made' w3 24 _ zrU rfl) _)
        have HB4 : Hid (Below wr.heap.size wr w4) := Lib.hid (by subst hw4; exact below_row (HB3.out.alloc HB3.out.size _) HB3.out.size _)
        clear hw4
        replace HOWN := Lib.hid (HOWN.out.keep HB4.out)
        have HZ4 := Lib.hid (Nat.le_trans HBZ.out HB4.out.size)
        replace HB4 := Lib.hid (HB4.out.mono HBZ.out)
        clear HB3
        generalize w3.heap.size = g8 at *
        have HLEN : Hid (L.length + 1 ≤ 4000000) := Lib.hid (by omega)
        have HXX : Hid (∀ j u, (encU x)[j]? = some u → w4.cell? ((⟨g8, 0, none⟩ : Addr).add j) = some u) := Lib.hid (fun j u hu => by rw [add_lit', Nat.zero_add]; exact HX4.out.cellv hu)
        cases p with
        | true =>
          cases q with
          | true =>
            have hcA := HCA.out (HPA.out rfl)
            have HNA1 := Lib.hid (HPA.out rfl)
            have hcB := HCB.out (HPB.out rfl)
            have HNB1 := Lib.hid (HPB.out rfl)
            go_wp2_with (first
              | ((with_reducible refine (keepMinus_any _ _ _).mono ?_); rintro e w5 ⟨rfl, hw5⟩; subst w5))
            go_roundw
            case rel =>
              have HBX : Hid (Below b wr w4) := Lib.hid (HB4.out)
              refine ⟨A2.tail, B2.tail, L, m, HTA.out HNA1.out _ HBX.out, HTB.out HNB1.out _ HBX.out, asc_tail HAA.out, asc_tail HAB.out, HOWN.out, ?_, ?_, ?_, HB.out.trans HBX.out, Nat.le_trans HBZ.out HBX.out.size⟩
              · have h := HEQ.out
                rw [HST.out] at h
                simpa [kMin] using h
              · have ha := HNA1.out; have hb := HNB1.out; have h1 := HTLA.out; have h2 := HTLB.out; have h3 := HNA.out; have h4 := HNB.out; omega
              · omega
            case measure => have ha := HNA1.out; have hb := HNB1.out; simp only [lenV]; omega
          | false =>
            have hcA := HCA.out (HPA.out rfl)
            have HNA1 := Lib.hid (HPA.out rfl)
            go_wp2_with (first
              | ((with_reducible refine (keepMinus_any _ _ _).mono ?_); rintro e w5 ⟨rfl, hw5⟩; subst w5)
              | (refine wpList_load_su rfl 24 (.tmp 8) rfl _ rfl elSum.2.1 szSum x HXX.out ?_)
              | (refine wpList_one_su rfl 26 24 elSet (.tmp 35) rfl x rfl ?_)
              | (refine wpList_append_su rfl 26 24 elSet (.tmp 34) (.tmp 36) rfl b _ L rfl (World.ownsRow.alloc HOWN.out _) (some ⟨w4.heap.size, 0, none⟩) [x] 1 1 (w4.heap.size + 1) rfl rfl (fun h => by cases h) (Ss.one (Has.made' w4 _ _ _ rfl) (Nat.lt_succ_self _)) HLEN.out (by have := HZ4.out; simp; omega) ?_; intro v6 w6 h1 h2; have HO := Lib.hid h1; have HB6 := Lib.hid h2; clear h1 h2))
            go_roundw
            case rel =>
              have HBX : Hid (Below b wr w6) := Lib.hid (HB4.out.trans (((Below.refl b w4).alloc HZ4.out _).trans HB6.out))
              refine ⟨A2.tail, B2, L ++ [x], m, HTA.out HNA1.out _ HBX.out, HUB.out _ HBX.out, asc_tail HAA.out, HAB.out, HO.out, ?_, ?_, ?_, HB.out.trans HBX.out, Nat.le_trans HBZ.out HBX.out.size⟩
              · have h := HEQ.out
                rw [HST.out] at h
                simpa [kMin] using h
              · have ha := HNA1.out; have h1 := HTLA.out; have h2 := HTLB.out; have h3 := HNA.out; have h4 := HNB.out; omega
              · simp only [List.length_append, List.length_singleton]; omega
            case measure => have ha := HNA1.out; simp only [lenV]; omega
        | false =>
          cases q with
          | true =>
            have hcB := HCB.out (HPB.out rfl)
            have HNB1 := Lib.hid (HPB.out rfl)
            go_wp2_with (first
              | ((with_reducible refine (keepMinus_any _ _ _).mono ?_); rintro e w5 ⟨rfl, hw5⟩; subst w5))
            go_roundw
            case rel =>
              have HBX : Hid (Below b wr w4) := Lib.hid (HB4.out)
              refine ⟨A2, B2.tail, L, m, HUA.out _ HBX.out, HTB.out HNB1.out _ HBX.out, HAA.out, asc_tail HAB.out, HOWN.out, ?_, ?_, ?_, HB.out.trans HBX.out, Nat.le_trans HBZ.out HBX.out.size⟩
              · have h := HEQ.out
                rw [HST.out] at h
                simpa [kMin] using h
              · have hb := HNB1.out; have h1 := HTLA.out; have h2 := HTLB.out; have h3 := HNA.out; have h4 := HNB.out; omega
              · omega
            case measure => have hb := HNB1.out; simp only [lenV]; omega
          | false =>
            have h := HPQ.out
            simp at h
      · go_upto_region 5 with (first | ((with_reducible refine HL.out.mono ?_); rintro e w3 ⟨rfl, h1⟩; have HB3 := Lib.hid h1; clear h1 HL) | (refine wpList_store_row rfl 24 (.tmp 8) (.tmp 27) rfl w3.heap.size (encU x).toArray rfl rfl 24 zrU.toArray (heap_alloc_new _ _) (by rw [encU_size]; exact szSum) (by rw [encU_size]; rfl) (encU_all x) ?_))
        generalize hw4 : (w3.alloc _).setRow _ _ = w4
        have HX4 : Hid (Has w4 w3.heap.size 24 (encU x)) := Lib.hid (by subst hw4; exact Has.rowl (Has.made' w3 24 _ zrU rfl) _)
        have HB4 : Hid (Below wr.heap.size wr w4) := Lib.hid (by subst hw4; exact below_row (HB3.out.alloc HB3.out.size _) HB3.out.size _)
        clear hw4
        replace HOWN := Lib.hid (HOWN.out.keep HB4.out)
        have HZ4 := Lib.hid (Nat.le_trans HBZ.out HB4.out.size)
        replace HB4 := Lib.hid (HB4.out.mono HBZ.out)
        clear HB3
        generalize w3.heap.size = g8 at *
        have HLEN : Hid (L.length + 1 ≤ 4000000) := Lib.hid (by omega)
        have HXX : Hid (∀ j u, (encU x)[j]? = some u → w4.cell? ((⟨g8, 0, none⟩ : Addr).add j) = some u) := Lib.hid (fun j u hu => by rw [add_lit', Nat.zero_add]; exact HX4.out.cellv hu)
        cases p with
        | true =>
          cases q with
          | true =>
            exact absurd (HPA.out rfl) (by omega)
          | false =>
            exact absurd (HPA.out rfl) (by omega)
        | false =>
          cases q with
          | true =>
            have hcB := HCB.out (HPB.out rfl)
            have HNB1 := Lib.hid (HPB.out rfl)
            go_wp2_with (first
              | ((with_reducible refine (keepMinus_any _ _ _).mono ?_); rintro e w5 ⟨rfl, hw5⟩; subst w5))
            go_roundw
            case rel =>
              have HBX : Hid (Below b wr w4) := Lib.hid (HB4.out)
              refine ⟨A2, B2.tail, L, m, HUA.out _ HBX.out, HTB.out HNB1.out _ HBX.out, HAA.out, asc_tail HAB.out, HOWN.out, ?_, ?_, ?_, HB.out.trans HBX.out, Nat.le_trans HBZ.out HBX.out.size⟩
              · have h := HEQ.out
                rw [HST.out] at h
                simpa [kMin] using h
              · have hb := HNB1.out; have h1 := HTLA.out; have h2 := HTLB.out; have h3 := HNA.out; have h4 := HNB.out; omega
              · omega
            case measure => have hb := HNB1.out; simp only [lenV]; omega
          | false =>
            have h := HPQ.out
            simp at h
set_option maxHeartbeats 1000000 in
theorem setMinus_any (A B : List Su) (qa qb : Option Addr) (ca cb : Nat) (hA : A.length ≤ 1000000) (hB : B.length ≤ 1000000) (hca : A.length ≤ ca) (hcb : B.length ≤ cb) (hqa : qa = none → ca = 0) (hqb : qb = none → cb = 0) (w : World) (ha : Sees w w.heap.size qa (rowU A)) (hb : Sees w w.heap.size qb (rowU B)) :
    Calls Tryd.prog 12 #[.slice qa A.length ca, .slice qb B.length cb] w fun e w' => (∃ v, e = .returned v ∧ OwnU w' w.heap.size 24 v (minU A B)) ∧ Below w.heap.size w w' := by
  have HM := Lib.hid (mergeMinus_any A B qa qb ca cb hA hB hca hcb hqa hqb w ha hb)
  clear ha hb
  go_enter Tryd.func12, Tryd.ntmps12
  go_wp2_with ((with_reducible refine HM.out.mono ?_); rintro e w1 ⟨⟨v1, rfl, h1⟩, h2⟩; have HO1 := Lib.hid h1; have HB1 := Lib.hid h2; clear h1 h2)
  go_ret
  exact ⟨⟨_, rfl, HO1.out⟩, HB1.out⟩
theorem keepBoth_any (a b : Bool) (w : World) : Calls Tryd.prog 40 #[.bool a, .bool b] w fun e w' => e = .returned (.bool (kBot a b)) ∧ w' = w := by
  cases a <;> cases b <;> (go_enter Tryd.func40, Tryd.ntmps40; go_wp2_with fail; go_ret; exact ⟨rfl, rfl⟩)
set_option maxHeartbeats 16000000 in
set_option maxRecDepth 100000 in
theorem mergeBoth_any (A B : List Su) (qa qb : Option Addr) (ca cb : Nat) (hA : A.length ≤ 1000000) (hB : B.length ≤ 1000000) (hca : A.length ≤ ca) (hcb : B.length ≤ cb) (hqa : qa = none → ca = 0) (hqb : qb = none → cb = 0) (w : World) (ha : Sees w w.heap.size qa (rowU A)) (hb : Sees w w.heap.size qb (rowU B)) :
    Calls Tryd.prog 34 #[.slice qa A.length ca, .slice qb B.length cb, .func (.func 40) #[] #[]] w fun e w' => (∃ v, e = .returned v ∧ OwnU w' w.heap.size 24 v (botU A B)) ∧ Below w.heap.size w w' := by
  have H1 := Lib.hid (inOrder_any A qa ca hA hca hqa w ha)
  have H2 : Hid (∀ w1, Below w.heap.size w w1 → Calls Tryd.prog 36 #[.slice qb B.length cb] w1 fun e w' => (∃ v, e = .returned v ∧ Us w' v (srt B)) ∧ Below w1.heap.size w1 w') := Lib.hid (fun w1 h => inOrder_any B qb cb hB hcb hqb w1 ((hb.keep h).more h.size))
  have hla := len_srt_le A
  have hlb := len_srt_le B
  have HR := Lib.hid (mrg_bot A B)
  have HAA := Lib.hid (asc_srt A)
  have HAB := Lib.hid (asc_srt B)
  generalize srt A = A1 at *
  generalize srt B = B1 at *
  generalize botU A B = R at *
  clear ha hb hca hcb hqa hqb
  go_enter Tryd.func34, Tryd.ntmps34
  go_wp2_with (first
    | ((with_reducible refine H1.out.mono ?_); rintro e w1 ⟨⟨v1, rfl, h1⟩, h2⟩; have HU1 := Lib.hid h1; have HB1 := Lib.hid h2; clear h1 h2 H1)
    | ((with_reducible refine (H2.out _ HB1.out).mono ?_); rintro e w2 ⟨⟨v2, rfl, h1⟩, h2⟩; have HU2 := Lib.hid h1.b; have HU3 := Lib.hid (HU1.out.keep h2).b; have HB2 := Lib.hid (HB1.out.trans (h2.mono HB1.out.size)); clear h1 h2 H2))
  have HNIL := Lib.hid (OwnU.nil w2 w2.heap.size 24)
  have HSZ := Lib.hid HB2.out.size
  obtain ⟨b, hb⟩ : ∃ b, b = w2.heap.size := ⟨_, rfl⟩
  rw [← hb] at HU3 HU2 HNIL HSZ
  have HBE : Hid (b ≤ w2.heap.size) := Lib.hid (Nat.le_of_eq hb)
  have HBE : Hid (b ≤ w2.heap.size) := Lib.hid (Nat.le_of_eq hb)
  have HW2 : Hid (Below b w2 w2) := Lib.hid (Below.refl _ _)
  clear hb HU1 HB1
  go_loopw [0, 1, 7] (fun v0 v1 v7 wr => ∃ (A2 B2 L : List Su) (n : Nat), UsB b wr v0 A2 ∧ UsB b wr v1 B2 ∧ AscU A2 ∧ AscU B2 ∧ OwnU wr b 24 v7 L ∧ L ++ mrgN kBot n A2 B2 = R ∧ A2.length + B2.length ≤ n ∧ L.length + n ≤ 2000000 ∧ Below b w2 wr ∧ b ≤ wr.heap.size) (fun v0 v1 _ _ => lenV v0 + lenV v1)
  case atStart => exact ⟨A1, B1, [], A1.length + B1.length, HU3.out, HU2.out, HAA.out, HAB.out, HNIL.out, HR.out, Nat.le_refl _, by simp; omega, HW2.out, HBE.out⟩
  case round =>
    clear HU2 HU3 HNIL HR HAA HAB HW2
    rename_i wr
    obtain ⟨A2, B2, L, n, ⟨qa2, ca2, rfl, hca2, hqa2, hsa⟩, ⟨qb2, cb2, rfl, hcb2, hqb2, hsb⟩, haA, haB, hown, heq, hn, hln, hB, hbz⟩ := hrel
    have HSA := Lib.hid hsa
    have HSB := Lib.hid hsb
    have HOWN := Lib.hid hown
    have HEQ := Lib.hid heq
    have HB := Lib.hid hB
    have HBZ := Lib.hid hbz
    clear hsa hsb hown heq hB hbz
    by_cases h0 : A2 = [] ∧ B2 = []
    · obtain ⟨rfl, rfl⟩ := h0
      have HE : Hid (R = L) := Lib.hid (by rw [← HEQ.out, mrgN_nil, List.append_nil])
      clear HSA HSB haA haB
      go_wp2_with fail
      go_ret
      refine ⟨⟨_, rfl, ?_⟩, HB2.out.trans (HB.out.mono HSZ.out)⟩
      rw [HE.out]
      exact HOWN.out.less HSZ.out
    · have HF := Lib.hid (least_fact haA haB h0)
      have HL := Lib.hid (least_any A2 B2 qa2 qb2 ca2 cb2 h0 wr (HSA.out.more HBZ.out) (HSB.out.more HBZ.out))
      obtain ⟨m, rfl⟩ : ∃ m, n = m + 1 := by
        have : 0 < n := by
          rcases A2 with _ | ⟨x, A2⟩
          · rcases B2 with _ | ⟨y, B2⟩
            · exact absurd ⟨rfl, rfl⟩ h0
            · simp at hn; omega
          · simp at hn; omega
        exact ⟨n - 1, by omega⟩
      have HST : Hid (mrgN kBot (m + 1) A2 B2 = (if kBot (leastU A2 B2).2.1 (leastU A2 B2).2.2 then [(leastU A2 B2).1] else []) ++ mrgN kBot m (if (leastU A2 B2).2.1 then A2.tail else A2) (if (leastU A2 B2).2.2 then B2.tail else B2)) := Lib.hid (by rw [mrgN, if_neg h0])
      have hg0 : 0 < A2.length ∨ (¬ 0 < A2.length ∧ 0 < B2.length) := by
        rcases A2 with _ | ⟨x, A2⟩
        · rcases B2 with _ | ⟨y, B2⟩
          · exact absurd ⟨rfl, rfl⟩ h0
          · exact .inr ⟨by simp, by simp⟩
        · exact .inl (by simp)
      generalize (leastU A2 B2).1 = x at *
      generalize (leastU A2 B2).2.1 = p at *
      generalize (leastU A2 B2).2.2 = q at *
      have HPA : Hid (p = true → 1 ≤ A2.length) := Lib.hid (fun hp => by
        have := HF.out.1
        rw [hp] at this
        exact List.length_pos_of_mem (of_decide_eq_true this.symm))
      have HPB : Hid (q = true → 1 ≤ B2.length) := Lib.hid (fun hp => by
        have := HF.out.2.1
        rw [hp] at this
        exact List.length_pos_of_mem (of_decide_eq_true this.symm))
      have HPQ : Hid (p = true ∨ q = true) := Lib.hid (by
        obtain ⟨f1, f2, f3, _⟩ := HF.out
        rcases f3 with h | h
        · left; rw [f1]; exact decide_eq_true h
        · right; rw [f2]; exact decide_eq_true h)
      have HCA := Lib.hid (fun h w' => cut1_su 26 24 elSet qa2 A2.length ca2 h w')
      have HCB := Lib.hid (fun h w' => cut1_su 26 24 elSet qb2 B2.length cb2 h w')
      have HAA := Lib.hid haA
      have HAB := Lib.hid haB
      have HTA : Hid (1 ≤ A2.length → ∀ w5, Below b wr w5 → UsB b w5 (.slice (tlQ qa2 ca2) (A2.length - 1) (ca2 - 1)) A2.tail) := Lib.hid (fun h w5 hb => tl_usB h hca2 hqa2 (HSA.out.keep hb))
      have HTB : Hid (1 ≤ B2.length → ∀ w5, Below b wr w5 → UsB b w5 (.slice (tlQ qb2 cb2) (B2.length - 1) (cb2 - 1)) B2.tail) := Lib.hid (fun h w5 hb => tl_usB h hcb2 hqb2 (HSB.out.keep hb))
      have HUA : Hid (∀ w5, Below b wr w5 → UsB b w5 (.slice qa2 A2.length ca2) A2) := Lib.hid (fun w5 hb => ⟨qa2, ca2, rfl, hca2, hqa2, HSA.out.keep hb⟩)
      have HUB : Hid (∀ w5, Below b wr w5 → UsB b w5 (.slice qb2 B2.length cb2) B2) := Lib.hid (fun w5 hb => ⟨qb2, cb2, rfl, hcb2, hqb2, HSB.out.keep hb⟩)
      have HTLA : Hid (A2.tail.length = A2.length - 1) := Lib.hid List.length_tail
      have HTLB : Hid (B2.tail.length = B2.length - 1) := Lib.hid List.length_tail
      clear HF h0 haA haB HSA HSB hca2 hcb2 hqa2 hqb2
      generalize hna : A2.length = na at *
      generalize hnb : B2.length = nb at *
      have HNA := Lib.hid hna
      have HNB := Lib.hid hnb
      clear hna hnb
      rcases hg0 with hu1 | ⟨hu1, hu2⟩
      · go_upto_region 5 with (first | ((with_reducible refine HL.out.mono ?_); rintro e w3 ⟨rfl, h1⟩; have HB3 := Lib.hid h1; clear h1 HL) | (refine wpList_store_row rfl 24 (.tmp 8) (.tmp 27) rfl w3.heap.size (encU x).toArray rfl rfl 24 zrU.toArray (heap_alloc_new _ _) (by rw [encU_size]; exact szSum) (by rw [encU_size]; rfl) (encU_all x) ?_))
        generalize hw4 : (w3.alloc _).setRow _ _ = w4
        have HX4 : Hid (Has w4 w3.heap.size 24 (encU x)) := Lib.hid (by subst hw4; exact Has.rowl (Has.made' w3 24 _ zrU rfl) _)
        have HB4 : Hid (Below wr.heap.size wr w4) := Lib.hid (by subst hw4; exact below_row (HB3.out.alloc HB3.out.size _) HB3.out.size _)
        clear hw4
        replace HOWN := Lib.hid (HOWN.out.keep HB4.out)
        have HZ4 := Lib.hid (Nat.le_trans HBZ.out HB4.out.size)
        replace HB4 := Lib.hid (HB4.out.mono HBZ.out)
        clear HB3
        generalize w3.heap.size = g8 at *
        have HLEN : Hid (L.length + 1 ≤ 4000000) := Lib.hid (by omega)
        have HXX : Hid (∀ j u, (encU x)[j]? = some u → w4.cell? ((⟨g8, 0, none⟩ : Addr).add j) = some u) := Lib.hid (fun j u hu => by rw [add_lit', Nat.zero_add]; exact HX4.out.cellv hu)
        cases p with
        | true =>
          cases q with
          | true =>
            have hcA := HCA.out (HPA.out rfl)
            have HNA1 := Lib.hid (HPA.out rfl)
            have hcB := HCB.out (HPB.out rfl)
            have HNB1 := Lib.hid (HPB.out rfl)
            go_wp2_with (first
              | ((with_reducible refine (keepBoth_any _ _ _).mono ?_); rintro e w5 ⟨rfl, hw5⟩; subst w5)
              | (refine wpList_load_su rfl 24 (.tmp 8) rfl _ rfl elSum.2.1 szSum x HXX.out ?_)
              | (refine wpList_one_su rfl 26 24 elSet (.tmp 35) rfl x rfl ?_)
              | (refine wpList_append_su rfl 26 24 elSet (.tmp 34) (.tmp 36) rfl b _ L rfl (World.ownsRow.alloc HOWN.out _) (some ⟨w4.heap.size, 0, none⟩) [x] 1 1 (w4.heap.size + 1) rfl rfl (fun h => by cases h) (Ss.one (Has.made' w4 _ _ _ rfl) (Nat.lt_succ_self _)) HLEN.out (by have := HZ4.out; simp; omega) ?_; intro v6 w6 h1 h2; have HO := Lib.hid h1; have HB6 := Lib.hid h2; clear h1 h2))
            go_roundw
            case rel =>
              have HBX : Hid (Below b wr w6) := Lib.hid (HB4.out.trans (((Below.refl b w4).alloc HZ4.out _).trans HB6.out))
              refine ⟨A2.tail, B2.tail, L ++ [x], m, HTA.out HNA1.out _ HBX.out, HTB.out HNB1.out _ HBX.out, asc_tail HAA.out, asc_tail HAB.out, HO.out, ?_, ?_, ?_, HB.out.trans HBX.out, Nat.le_trans HBZ.out HBX.out.size⟩
              · have h := HEQ.out
                rw [HST.out] at h
                simpa [kBot] using h
              · have ha := HNA1.out; have hb := HNB1.out; have h1 := HTLA.out; have h2 := HTLB.out; have h3 := HNA.out; have h4 := HNB.out; omega
              · simp only [List.length_append, List.length_singleton]; omega
            case measure => have ha := HNA1.out; have hb := HNB1.out; simp only [lenV]; omega
          | false =>
            have hcA := HCA.out (HPA.out rfl)
            have HNA1 := Lib.hid (HPA.out rfl)
            go_wp2_with (first
              | ((with_reducible refine (keepBoth_any _ _ _).mono ?_); rintro e w5 ⟨rfl, hw5⟩; subst w5))
            go_roundw
            case rel =>
              have HBX : Hid (Below b wr w4) := Lib.hid (HB4.out)
              refine ⟨A2.tail, B2, L, m, HTA.out HNA1.out _ HBX.out, HUB.out _ HBX.out, asc_tail HAA.out, HAB.out, HOWN.out, ?_, ?_, ?_, HB.out.trans HBX.out, Nat.le_trans HBZ.out HBX.out.size⟩
              · have h := HEQ.out
                rw [HST.out] at h
                simpa [kBot] using h
              · have ha := HNA1.out; have h1 := HTLA.out; have h2 := HTLB.out; have h3 := HNA.out; have h4 := HNB.out; omega
              · omega
            case measure => have ha := HNA1.out; simp only [lenV]; omega
        | false =>
          cases q with
          | true =>
            have hcB := HCB.out (HPB.out rfl)
            have HNB1 := Lib.hid (HPB.out rfl)
            go_wp2_with (first
              | ((with_reducible refine (keepBoth_any _ _ _).mono ?_); rintro e w5 ⟨rfl, hw5⟩; subst w5))
            go_roundw
            case rel =>
              have HBX : Hid (Below b wr w4) := Lib.hid (HB4.out)
              refine ⟨A2, B2.tail, L, m, HUA.out _ HBX.out, HTB.out HNB1.out _ HBX.out, HAA.out, asc_tail HAB.out, HOWN.out, ?_, ?_, ?_, HB.out.trans HBX.out, Nat.le_trans HBZ.out HBX.out.size⟩
              · have h := HEQ.out
                rw [HST.out] at h
                simpa [kBot] using h
              · have hb := HNB1.out; have h1 := HTLA.out; have h2 := HTLB.out; have h3 := HNA.out; have h4 := HNB.out; omega
              · omega
            case measure => have hb := HNB1.out; simp only [lenV]; omega
          | false =>
            have h := HPQ.out
            simp at h
      · go_upto_region 5 with (first | ((with_reducible refine HL.out.mono ?_); rintro e w3 ⟨rfl, h1⟩; have HB3 := Lib.hid h1; clear h1 HL) | (refine wpList_store_row rfl 24 (.tmp 8) (.tmp 27) rfl w3.heap.size (encU x).toArray rfl rfl 24 zrU.toArray (heap_alloc_new _ _) (by rw [encU_size]; exact szSum) (by rw [encU_size]; rfl) (encU_all x) ?_))
        generalize hw4 : (w3.alloc _).setRow _ _ = w4
        have HX4 : Hid (Has w4 w3.heap.size 24 (encU x)) := Lib.hid (by subst hw4; exact Has.rowl (Has.made' w3 24 _ zrU rfl) _)
        have HB4 : Hid (Below wr.heap.size wr w4) := Lib.hid (by subst hw4; exact below_row (HB3.out.alloc HB3.out.size _) HB3.out.size _)
        clear hw4
        replace HOWN := Lib.hid (HOWN.out.keep HB4.out)
        have HZ4 := Lib.hid (Nat.le_trans HBZ.out HB4.out.size)
        replace HB4 := Lib.hid (HB4.out.mono HBZ.out)
        clear HB3
        generalize w3.heap.size = g8 at *
        have HLEN : Hid (L.length + 1 ≤ 4000000) := Lib.hid (by omega)
        have HXX : Hid (∀ j u, (encU x)[j]? = some u → w4.cell? ((⟨g8, 0, none⟩ : Addr).add j) = some u) := Lib.hid (fun j u hu => by rw [add_lit', Nat.zero_add]; exact HX4.out.cellv hu)
        cases p with
        | true =>
          cases q with
          | true =>
            exact absurd (HPA.out rfl) (by omega)
          | false =>
            exact absurd (HPA.out rfl) (by omega)
        | false =>
          cases q with
          | true =>
            have hcB := HCB.out (HPB.out rfl)
            have HNB1 := Lib.hid (HPB.out rfl)
            go_wp2_with (first
              | ((with_reducible refine (keepBoth_any _ _ _).mono ?_); rintro e w5 ⟨rfl, hw5⟩; subst w5))
            go_roundw
            case rel =>
              have HBX : Hid (Below b wr w4) := Lib.hid (HB4.out)
              refine ⟨A2, B2.tail, L, m, HUA.out _ HBX.out, HTB.out HNB1.out _ HBX.out, HAA.out, asc_tail HAB.out, HOWN.out, ?_, ?_, ?_, HB.out.trans HBX.out, Nat.le_trans HBZ.out HBX.out.size⟩
              · have h := HEQ.out
                rw [HST.out] at h
                simpa [kBot] using h
              · have hb := HNB1.out; have h1 := HTLA.out; have h2 := HTLB.out; have h3 := HNA.out; have h4 := HNB.out; omega
              · omega
            case measure => have hb := HNB1.out; simp only [lenV]; omega
          | false =>
            have h := HPQ.out
            simp at h
set_option maxHeartbeats 1000000 in
theorem setBoth_any (A B : List Su) (qa qb : Option Addr) (ca cb : Nat) (hA : A.length ≤ 1000000) (hB : B.length ≤ 1000000) (hca : A.length ≤ ca) (hcb : B.length ≤ cb) (hqa : qa = none → ca = 0) (hqb : qb = none → cb = 0) (w : World) (ha : Sees w w.heap.size qa (rowU A)) (hb : Sees w w.heap.size qb (rowU B)) :
    Calls Tryd.prog 15 #[.slice qa A.length ca, .slice qb B.length cb] w fun e w' => (∃ v, e = .returned v ∧ OwnU w' w.heap.size 24 v (botU A B)) ∧ Below w.heap.size w w' := by
  have HM := Lib.hid (mergeBoth_any A B qa qb ca cb hA hB hca hcb hqa hqb w ha hb)
  clear ha hb
  go_enter Tryd.func15, Tryd.ntmps15
  go_wp2_with ((with_reducible refine HM.out.mono ?_); rintro e w1 ⟨⟨v1, rfl, h1⟩, h2⟩; have HO1 := Lib.hid h1; have HB1 := Lib.hid h2; clear h1 h2)
  go_ret
  exact ⟨⟨_, rfl, HO1.out⟩, HB1.out⟩
theorem keepEither_any (a b : Bool) (w : World) : Calls Tryd.prog 41 #[.bool a, .bool b] w fun e w' => e = .returned (.bool (kEit a b)) ∧ w' = w := by
  cases a <;> cases b <;> (go_enter Tryd.func41, Tryd.ntmps41; go_wp2_with fail; go_ret; exact ⟨rfl, rfl⟩)
set_option maxHeartbeats 16000000 in
set_option maxRecDepth 100000 in
theorem mergeEither_any (A B : List Su) (qa qb : Option Addr) (ca cb : Nat) (hA : A.length ≤ 1000000) (hB : B.length ≤ 1000000) (hca : A.length ≤ ca) (hcb : B.length ≤ cb) (hqa : qa = none → ca = 0) (hqb : qb = none → cb = 0) (w : World) (ha : Sees w w.heap.size qa (rowU A)) (hb : Sees w w.heap.size qb (rowU B)) :
    Calls Tryd.prog 34 #[.slice qa A.length ca, .slice qb B.length cb, .func (.func 41) #[] #[]] w fun e w' => (∃ v, e = .returned v ∧ OwnU w' w.heap.size 24 v (eitU A B)) ∧ Below w.heap.size w w' := by
  have H1 := Lib.hid (inOrder_any A qa ca hA hca hqa w ha)
  have H2 : Hid (∀ w1, Below w.heap.size w w1 → Calls Tryd.prog 36 #[.slice qb B.length cb] w1 fun e w' => (∃ v, e = .returned v ∧ Us w' v (srt B)) ∧ Below w1.heap.size w1 w') := Lib.hid (fun w1 h => inOrder_any B qb cb hB hcb hqb w1 ((hb.keep h).more h.size))
  have hla := len_srt_le A
  have hlb := len_srt_le B
  have HR := Lib.hid (mrg_eit A B)
  have HAA := Lib.hid (asc_srt A)
  have HAB := Lib.hid (asc_srt B)
  generalize srt A = A1 at *
  generalize srt B = B1 at *
  generalize eitU A B = R at *
  clear ha hb hca hcb hqa hqb
  go_enter Tryd.func34, Tryd.ntmps34
  go_wp2_with (first
    | ((with_reducible refine H1.out.mono ?_); rintro e w1 ⟨⟨v1, rfl, h1⟩, h2⟩; have HU1 := Lib.hid h1; have HB1 := Lib.hid h2; clear h1 h2 H1)
    | ((with_reducible refine (H2.out _ HB1.out).mono ?_); rintro e w2 ⟨⟨v2, rfl, h1⟩, h2⟩; have HU2 := Lib.hid h1.b; have HU3 := Lib.hid (HU1.out.keep h2).b; have HB2 := Lib.hid (HB1.out.trans (h2.mono HB1.out.size)); clear h1 h2 H2))
  have HNIL := Lib.hid (OwnU.nil w2 w2.heap.size 24)
  have HSZ := Lib.hid HB2.out.size
  obtain ⟨b, hb⟩ : ∃ b, b = w2.heap.size := ⟨_, rfl⟩
  rw [← hb] at HU3 HU2 HNIL HSZ
  have HBE : Hid (b ≤ w2.heap.size) := Lib.hid (Nat.le_of_eq hb)
  have HW2 : Hid (Below b w2 w2) := Lib.hid (Below.refl _ _)
  clear hb HU1 HB1
  go_loopw [0, 1, 7] (fun v0 v1 v7 wr => ∃ (A2 B2 L : List Su) (n : Nat), UsB b wr v0 A2 ∧ UsB b wr v1 B2 ∧ AscU A2 ∧ AscU B2 ∧ OwnU wr b 24 v7 L ∧ L ++ mrgN kEit n A2 B2 = R ∧ A2.length + B2.length ≤ n ∧ L.length + n ≤ 2000000 ∧ Below b w2 wr ∧ b ≤ wr.heap.size) (fun v0 v1 _ _ => lenV v0 + lenV v1)
  case atStart => exact ⟨A1, B1, [], A1.length + B1.length, HU3.out, HU2.out, HAA.out, HAB.out, HNIL.out, HR.out, Nat.le_refl _, by simp; omega, HW2.out, HBE.out⟩
  case round =>
    clear HU2 HU3 HNIL HR HAA HAB HW2
    rename_i wr
    obtain ⟨A2, B2, L, n, ⟨qa2, ca2, rfl, hca2, hqa2, hsa⟩, ⟨qb2, cb2, rfl, hcb2, hqb2, hsb⟩, haA, haB, hown, heq, hn, hln, hB, hbz⟩ := hrel
    have HSA := Lib.hid hsa
    have HSB := Lib.hid hsb
    have HOWN := Lib.hid hown
    have HEQ := Lib.hid heq
    have HB := Lib.hid hB
    have HBZ := Lib.hid hbz
    clear hsa hsb hown heq hB hbz
    by_cases h0 : A2 = [] ∧ B2 = []
    · obtain ⟨rfl, rfl⟩ := h0
      have HE : Hid (R = L) := Lib.hid (by rw [← HEQ.out, mrgN_nil, List.append_nil])
      clear HSA HSB haA haB
      go_wp2_with fail
      go_ret
      refine ⟨⟨_, rfl, ?_⟩, HB2.out.trans (HB.out.mono HSZ.out)⟩
      rw [HE.out]
      exact HOWN.out.less HSZ.out
    · have HF := Lib.hid (least_fact haA haB h0)
      have HL := Lib.hid (least_any A2 B2 qa2 qb2 ca2 cb2 h0 wr (HSA.out.more HBZ.out) (HSB.out.more HBZ.out))
      obtain ⟨m, rfl⟩ : ∃ m, n = m + 1 := by
        have : 0 < n := by
          rcases A2 with _ | ⟨x, A2⟩
          · rcases B2 with _ | ⟨y, B2⟩
            · exact absurd ⟨rfl, rfl⟩ h0
            · simp at hn; omega
          · simp at hn; omega
        exact ⟨n - 1, by omega⟩
      have HST : Hid (mrgN kEit (m + 1) A2 B2 = (if kEit (leastU A2 B2).2.1 (leastU A2 B2).2.2 then [(leastU A2 B2).1] else []) ++ mrgN kEit m (if (leastU A2 B2).2.1 then A2.tail else A2) (if (leastU A2 B2).2.2 then B2.tail else B2)) := Lib.hid (by rw [mrgN, if_neg h0])
      have hg0 : 0 < A2.length ∨ (¬ 0 < A2.length ∧ 0 < B2.length) := by
        rcases A2 with _ | ⟨x, A2⟩
        · rcases B2 with _ | ⟨y, B2⟩
          · exact absurd ⟨rfl, rfl⟩ h0
          · exact .inr ⟨by simp, by simp⟩
        · exact .inl (by simp)
      generalize (leastU A2 B2).1 = x at *
      generalize (leastU A2 B2).2.1 = p at *
      generalize (leastU A2 B2).2.2 = q at *
      have HPA : Hid (p = true → 1 ≤ A2.length) := Lib.hid (fun hp => by
        have := HF.out.1
        rw [hp] at this
        exact List.length_pos_of_mem (of_decide_eq_true this.symm))
      have HPB : Hid (q = true → 1 ≤ B2.length) := Lib.hid (fun hp => by
        have := HF.out.2.1
        rw [hp] at this
        exact List.length_pos_of_mem (of_decide_eq_true this.symm))
      have HPQ : Hid (p = true ∨ q = true) := Lib.hid (by
        obtain ⟨f1, f2, f3, _⟩ := HF.out
        rcases f3 with h | h
        · left; rw [f1]; exact decide_eq_true h
        · right; rw [f2]; exact decide_eq_true h)
      have HCA := Lib.hid (fun h w' => cut1_su 26 24 elSet qa2 A2.length ca2 h w')
      have HCB := Lib.hid (fun h w' => cut1_su 26 24 elSet qb2 B2.length cb2 h w')
      have HAA := Lib.hid haA
      have HAB := Lib.hid haB
      have HTA : Hid (1 ≤ A2.length → ∀ w5, Below b wr w5 → UsB b w5 (.slice (tlQ qa2 ca2) (A2.length - 1) (ca2 - 1)) A2.tail) := Lib.hid (fun h w5 hb => tl_usB h hca2 hqa2 (HSA.out.keep hb))
      have HTB : Hid (1 ≤ B2.length → ∀ w5, Below b wr w5 → UsB b w5 (.slice (tlQ qb2 cb2) (B2.length - 1) (cb2 - 1)) B2.tail) := Lib.hid (fun h w5 hb => tl_usB h hcb2 hqb2 (HSB.out.keep hb))
      have HUA : Hid (∀ w5, Below b wr w5 → UsB b w5 (.slice qa2 A2.length ca2) A2) := Lib.hid (fun w5 hb => ⟨qa2, ca2, rfl, hca2, hqa2, HSA.out.keep hb⟩)
      have HUB : Hid (∀ w5, Below b wr w5 → UsB b w5 (.slice qb2 B2.length cb2) B2) := Lib.hid (fun w5 hb => ⟨qb2, cb2, rfl, hcb2, hqb2, HSB.out.keep hb⟩)
      have HTLA : Hid (A2.tail.length = A2.length - 1) := Lib.hid List.length_tail
      have HTLB : Hid (B2.tail.length = B2.length - 1) := Lib.hid List.length_tail
      clear HF h0 haA haB HSA HSB hca2 hcb2 hqa2 hqb2
      generalize hna : A2.length = na at *
      generalize hnb : B2.length = nb at *
      have HNA := Lib.hid hna
      have HNB := Lib.hid hnb
      clear hna hnb
      rcases hg0 with hu1 | ⟨hu1, hu2⟩
      · go_upto_region 5 with (first | ((with_reducible refine HL.out.mono ?_); rintro e w3 ⟨rfl, h1⟩; have HB3 := Lib.hid h1; clear h1 HL) | (refine wpList_store_row rfl 24 (.tmp 8) (.tmp 27) rfl w3.heap.size (encU x).toArray rfl rfl 24 zrU.toArray (heap_alloc_new _ _) (by rw [encU_size]; exact szSum) (by rw [encU_size]; rfl) (encU_all x) ?_))
        generalize hw4 : (w3.alloc _).setRow _ _ = w4
        have HX4 : Hid (Has w4 w3.heap.size 24 (encU x)) := Lib.hid (by subst hw4; exact Has.rowl (Has.made' w3 24 _ zrU rfl) _)
        have HB4 : Hid (Below wr.heap.size wr w4) := Lib.hid (by subst hw4; exact below_row (HB3.out.alloc HB3.out.size _) HB3.out.size _)
        clear hw4
        replace HOWN := Lib.hid (HOWN.out.keep HB4.out)
        have HZ4 := Lib.hid (Nat.le_trans HBZ.out HB4.out.size)
        replace HB4 := Lib.hid (HB4.out.mono HBZ.out)
        clear HB3
        generalize w3.heap.size = g8 at *
        have HLEN : Hid (L.length + 1 ≤ 4000000) := Lib.hid (by omega)
        have HXX : Hid (∀ j u, (encU x)[j]? = some u → w4.cell? ((⟨g8, 0, none⟩ : Addr).add j) = some u) := Lib.hid (fun j u hu => by rw [add_lit', Nat.zero_add]; exact HX4.out.cellv hu)
        cases p with
        | true =>
          cases q with
          | true =>
            have hcA := HCA.out (HPA.out rfl)
            have HNA1 := Lib.hid (HPA.out rfl)
            have hcB := HCB.out (HPB.out rfl)
            have HNB1 := Lib.hid (HPB.out rfl)
            go_wp2_with (first
              | ((with_reducible refine (keepEither_any _ _ _).mono ?_); rintro e w5 ⟨rfl, hw5⟩; subst w5)
              | (refine wpList_load_su rfl 24 (.tmp 8) rfl _ rfl elSum.2.1 szSum x HXX.out ?_)
              | (refine wpList_one_su rfl 26 24 elSet (.tmp 35) rfl x rfl ?_)
              | (refine wpList_append_su rfl 26 24 elSet (.tmp 34) (.tmp 36) rfl b _ L rfl (World.ownsRow.alloc HOWN.out _) (some ⟨w4.heap.size, 0, none⟩) [x] 1 1 (w4.heap.size + 1) rfl rfl (fun h => by cases h) (Ss.one (Has.made' w4 _ _ _ rfl) (Nat.lt_succ_self _)) HLEN.out (by have := HZ4.out; simp; omega) ?_; intro v6 w6 h1 h2; have HO := Lib.hid h1; have HB6 := Lib.hid h2; clear h1 h2))
            go_roundw
            case rel =>
              have HBX : Hid (Below b wr w6) := Lib.hid (HB4.out.trans (((Below.refl b w4).alloc HZ4.out _).trans HB6.out))
              refine ⟨A2.tail, B2.tail, L ++ [x], m, HTA.out HNA1.out _ HBX.out, HTB.out HNB1.out _ HBX.out, asc_tail HAA.out, asc_tail HAB.out, HO.out, ?_, ?_, ?_, HB.out.trans HBX.out, Nat.le_trans HBZ.out HBX.out.size⟩
              · have h := HEQ.out
                rw [HST.out] at h
                simpa [kEit] using h
              · have ha := HNA1.out; have hb := HNB1.out; have h1 := HTLA.out; have h2 := HTLB.out; have h3 := HNA.out; have h4 := HNB.out; omega
              · simp only [List.length_append, List.length_singleton]; omega
            case measure => have ha := HNA1.out; have hb := HNB1.out; simp only [lenV]; omega
          | false =>
            have hcA := HCA.out (HPA.out rfl)
            have HNA1 := Lib.hid (HPA.out rfl)
            go_wp2_with (first
              | ((with_reducible refine (keepEither_any _ _ _).mono ?_); rintro e w5 ⟨rfl, hw5⟩; subst w5)
              | (refine wpList_load_su rfl 24 (.tmp 8) rfl _ rfl elSum.2.1 szSum x HXX.out ?_)
              | (refine wpList_one_su rfl 26 24 elSet (.tmp 35) rfl x rfl ?_)
              | (refine wpList_append_su rfl 26 24 elSet (.tmp 34) (.tmp 36) rfl b _ L rfl (World.ownsRow.alloc HOWN.out _) (some ⟨w4.heap.size, 0, none⟩) [x] 1 1 (w4.heap.size + 1) rfl rfl (fun h => by cases h) (Ss.one (Has.made' w4 _ _ _ rfl) (Nat.lt_succ_self _)) HLEN.out (by have := HZ4.out; simp; omega) ?_; intro v6 w6 h1 h2; have HO := Lib.hid h1; have HB6 := Lib.hid h2; clear h1 h2))
            go_roundw
            case rel =>
              have HBX : Hid (Below b wr w6) := Lib.hid (HB4.out.trans (((Below.refl b w4).alloc HZ4.out _).trans HB6.out))
              refine ⟨A2.tail, B2, L ++ [x], m, HTA.out HNA1.out _ HBX.out, HUB.out _ HBX.out, asc_tail HAA.out, HAB.out, HO.out, ?_, ?_, ?_, HB.out.trans HBX.out, Nat.le_trans HBZ.out HBX.out.size⟩
              · have h := HEQ.out
                rw [HST.out] at h
                simpa [kEit] using h
              · have ha := HNA1.out; have h1 := HTLA.out; have h2 := HTLB.out; have h3 := HNA.out; have h4 := HNB.out; omega
              · simp only [List.length_append, List.length_singleton]; omega
            case measure => have ha := HNA1.out; simp only [lenV]; omega
        | false =>
          cases q with
          | true =>
            have hcB := HCB.out (HPB.out rfl)
            have HNB1 := Lib.hid (HPB.out rfl)
            go_wp2_with (first
              | ((with_reducible refine (keepEither_any _ _ _).mono ?_); rintro e w5 ⟨rfl, hw5⟩; subst w5)
              | (refine wpList_load_su rfl 24 (.tmp 8) rfl _ rfl elSum.2.1 szSum x HXX.out ?_)
              | (refine wpList_one_su rfl 26 24 elSet (.tmp 35) rfl x rfl ?_)
              | (refine wpList_append_su rfl 26 24 elSet (.tmp 34) (.tmp 36) rfl b _ L rfl (World.ownsRow.alloc HOWN.out _) (some ⟨w4.heap.size, 0, none⟩) [x] 1 1 (w4.heap.size + 1) rfl rfl (fun h => by cases h) (Ss.one (Has.made' w4 _ _ _ rfl) (Nat.lt_succ_self _)) HLEN.out (by have := HZ4.out; simp; omega) ?_; intro v6 w6 h1 h2; have HO := Lib.hid h1; have HB6 := Lib.hid h2; clear h1 h2))
            go_roundw
            case rel =>
              have HBX : Hid (Below b wr w6) := Lib.hid (HB4.out.trans (((Below.refl b w4).alloc HZ4.out _).trans HB6.out))
              refine ⟨A2, B2.tail, L ++ [x], m, HUA.out _ HBX.out, HTB.out HNB1.out _ HBX.out, HAA.out, asc_tail HAB.out, HO.out, ?_, ?_, ?_, HB.out.trans HBX.out, Nat.le_trans HBZ.out HBX.out.size⟩
              · have h := HEQ.out
                rw [HST.out] at h
                simpa [kEit] using h
              · have hb := HNB1.out; have h1 := HTLA.out; have h2 := HTLB.out; have h3 := HNA.out; have h4 := HNB.out; omega
              · simp only [List.length_append, List.length_singleton]; omega
            case measure => have hb := HNB1.out; simp only [lenV]; omega
          | false =>
            have h := HPQ.out
            simp at h
      · go_upto_region 5 with (first | ((with_reducible refine HL.out.mono ?_); rintro e w3 ⟨rfl, h1⟩; have HB3 := Lib.hid h1; clear h1 HL) | (refine wpList_store_row rfl 24 (.tmp 8) (.tmp 27) rfl w3.heap.size (encU x).toArray rfl rfl 24 zrU.toArray (heap_alloc_new _ _) (by rw [encU_size]; exact szSum) (by rw [encU_size]; rfl) (encU_all x) ?_))
        generalize hw4 : (w3.alloc _).setRow _ _ = w4
        have HX4 : Hid (Has w4 w3.heap.size 24 (encU x)) := Lib.hid (by subst hw4; exact Has.rowl (Has.made' w3 24 _ zrU rfl) _)
        have HB4 : Hid (Below wr.heap.size wr w4) := Lib.hid (by subst hw4; exact below_row (HB3.out.alloc HB3.out.size _) HB3.out.size _)
        clear hw4
        replace HOWN := Lib.hid (HOWN.out.keep HB4.out)
        have HZ4 := Lib.hid (Nat.le_trans HBZ.out HB4.out.size)
        replace HB4 := Lib.hid (HB4.out.mono HBZ.out)
        clear HB3
        generalize w3.heap.size = g8 at *
        have HLEN : Hid (L.length + 1 ≤ 4000000) := Lib.hid (by omega)
        have HXX : Hid (∀ j u, (encU x)[j]? = some u → w4.cell? ((⟨g8, 0, none⟩ : Addr).add j) = some u) := Lib.hid (fun j u hu => by rw [add_lit', Nat.zero_add]; exact HX4.out.cellv hu)
        cases p with
        | true =>
          cases q with
          | true =>
            exact absurd (HPA.out rfl) (by omega)
          | false =>
            exact absurd (HPA.out rfl) (by omega)
        | false =>
          cases q with
          | true =>
            have hcB := HCB.out (HPB.out rfl)
            have HNB1 := Lib.hid (HPB.out rfl)
            go_wp2_with (first
              | ((with_reducible refine (keepEither_any _ _ _).mono ?_); rintro e w5 ⟨rfl, hw5⟩; subst w5)
              | (refine wpList_load_su rfl 24 (.tmp 8) rfl _ rfl elSum.2.1 szSum x HXX.out ?_)
              | (refine wpList_one_su rfl 26 24 elSet (.tmp 35) rfl x rfl ?_)
              | (refine wpList_append_su rfl 26 24 elSet (.tmp 34) (.tmp 36) rfl b _ L rfl (World.ownsRow.alloc HOWN.out _) (some ⟨w4.heap.size, 0, none⟩) [x] 1 1 (w4.heap.size + 1) rfl rfl (fun h => by cases h) (Ss.one (Has.made' w4 _ _ _ rfl) (Nat.lt_succ_self _)) HLEN.out (by have := HZ4.out; simp; omega) ?_; intro v6 w6 h1 h2; have HO := Lib.hid h1; have HB6 := Lib.hid h2; clear h1 h2))
            go_roundw
            case rel =>
              have HBX : Hid (Below b wr w6) := Lib.hid (HB4.out.trans (((Below.refl b w4).alloc HZ4.out _).trans HB6.out))
              refine ⟨A2, B2.tail, L ++ [x], m, HUA.out _ HBX.out, HTB.out HNB1.out _ HBX.out, HAA.out, asc_tail HAB.out, HO.out, ?_, ?_, ?_, HB.out.trans HBX.out, Nat.le_trans HBZ.out HBX.out.size⟩
              · have h := HEQ.out
                rw [HST.out] at h
                simpa [kEit] using h
              · have hb := HNB1.out; have h1 := HTLA.out; have h2 := HTLB.out; have h3 := HNA.out; have h4 := HNB.out; omega
              · simp only [List.length_append, List.length_singleton]; omega
            case measure => have hb := HNB1.out; simp only [lenV]; omega
          | false =>
            have h := HPQ.out
            simp at h
set_option maxHeartbeats 1000000 in
theorem setEither_any (A B : List Su) (qa qb : Option Addr) (ca cb : Nat) (hA : A.length ≤ 1000000) (hB : B.length ≤ 1000000) (hca : A.length ≤ ca) (hcb : B.length ≤ cb) (hqa : qa = none → ca = 0) (hqb : qb = none → cb = 0) (w : World) (ha : Sees w w.heap.size qa (rowU A)) (hb : Sees w w.heap.size qb (rowU B)) :
    Calls Tryd.prog 16 #[.slice qa A.length ca, .slice qb B.length cb] w fun e w' => (∃ v, e = .returned v ∧ OwnU w' w.heap.size 24 v (eitU A B)) ∧ Below w.heap.size w w' := by
  have HM := Lib.hid (mergeEither_any A B qa qb ca cb hA hB hca hcb hqa hqb w ha hb)
  clear ha hb
  go_enter Tryd.func16, Tryd.ntmps16
  go_wp2_with ((with_reducible refine HM.out.mono ?_); rintro e w1 ⟨⟨v1, rfl, h1⟩, h2⟩; have HO1 := Lib.hid h1; have HB1 := Lib.hid h2; clear h1 h2)
  go_ret
  exact ⟨⟨_, rfl, HO1.out⟩, HB1.out⟩
end Go.Proofs.YtlidoikpfodpeaaDoor
/- Contracts: slices.BinarySearchFunc, slices.Equal over sums; package set's Has, Same. Condition: at most 10^6 sums. -/
namespace Go.Proofs.YtlidoikpfodpeaaDoor
open Go.RowKit
theorem asc_le {L : List Su} (h : AscU L) {i j : Nat} (hij : i ≤ j) (hj : j < L.length) : cmpU (L[i]'(by omega)) L[j] ≤ 0 := by
  by_cases e : i = j
  · subst e; rw [cmpU_self]; exact Int.le_refl _
  · have := List.pairwise_iff_getElem.1 h i j (by omega) hj (by omega)
    omega
/-- What the search has found so far. -/
def Parted (L : List Su) (x : Su) (lo hi : Nat) : Prop := (∀ k (hk : k < L.length), k < lo → cmpU (L[k]'hk) x = -1) ∧ (∀ k (hk : k < L.length), hi ≤ k → 0 ≤ cmpU (L[k]'hk) x)
theorem parted_up {L : List Su} {x : Su} {lo hi m : Nat} (h : Parted L x lo hi) (hL : AscU L) (hm : m < L.length) (hx : cmpU L[m] x = -1) : Parted L x (m + 1) hi :=
  ⟨fun _ _ hkm => cmpU_lelt (asc_le hL (Nat.le_of_lt_succ hkm) hm) hx, h.2⟩
theorem parted_down {L : List Su} {x : Su} {lo hi m : Nat} (h : Parted L x lo hi) (hL : AscU L) (hm : m < L.length) (hx : 0 ≤ cmpU L[m] x) : Parted L x lo m :=
  ⟨h.1, fun k hk hmk => by
    have h1 := asc_le hL hmk hk
    have h2 := cmpU_neg L[m] x
    have h3 := cmpU_trans (show cmpU x L[m] ≤ 0 by omega) h1
    have h4 := cmpU_neg x L[k]
    omega⟩
theorem parted_found {L : List Su} {x : Su} {i : Nat} (h : Parted L x i i) (hL : AscU L) (hi : i < L.length) : decide (cmpU L[i] x = 0) = decide (x ∈ L) := by
  by_cases e : cmpU L[i] x = 0
  · rw [decide_eq_true e, decide_eq_true (by rw [← cmpU_zero.1 e]; exact List.getElem_mem hi)]
  · rw [decide_eq_false e, decide_eq_false fun hm => ?_]
    obtain ⟨k, hk, rfl⟩ := List.mem_iff_getElem.1 hm
    by_cases hki : k < i
    · have := h.1 k hk hki
      rw [cmpU_self] at this; cases this
    · have h1 := asc_le hL (show i ≤ k by omega) hk
      have h2 := h.2 i hi (Nat.le_refl _)
      exact e (by omega)
theorem parted_none {L : List Su} {x : Su} {i : Nat} (h : Parted L x i i) (hi : ¬ i < L.length) : decide (x ∈ L) = false := decide_eq_false fun hm => by
  obtain ⟨k, hk, rfl⟩ := List.mem_iff_getElem.1 hm
  have := h.1 k hk (by omega)
  rw [cmpU_self] at this; cases this
set_option maxHeartbeats 8000000 in
set_option maxRecDepth 100000 in
theorem bsearch_any (L : List Su) (hL : AscU L) (x : Su) (q : Option Addr) (c : Nat) (hm : L.length ≤ 1000000) (w : World) (hs : Sees w w.heap.size q (rowU L)) :
    Calls Tryd.prog 32 #[.slice q L.length c, .agg (encU x).toArray, .func (.func 29) #[] #[]] w fun e w' => (∃ i : Int, e = .returned (.tuple #[.int .i64 i, .bool (decide (x ∈ L))])) ∧ Below w.heap.size w w' := by
  have HS := Lib.hid hs
  have HA := Lib.hid hL
  have HP0 : Hid (Parted L x 0 L.length) := Lib.hid ⟨fun _ _ h => absurd h (Nat.not_lt_zero _), fun _ hk h => absurd hk (Nat.not_lt.2 h)⟩
  have HW0 := Lib.hid ((Below.refl w.heap.size w).alloc (Nat.le_refl _) (.cells (encU x).toArray 24))
  have HX0 : Hid (Has (w.alloc (.cells (encU x).toArray 24)) w.heap.size 24 (encU x)) := Lib.hid (Has.made' w _ _ _ rfl)
  clear hs hL
  go_enter Tryd.func32, Tryd.ntmps32
  go_wp2_with fail
  generalize w.alloc (.cells (encU x).toArray 24) = w0 at *
  have HXX : Hid (∀ w', Below w0.heap.size w0 w' → ∀ j u, (encU x)[j]? = some u → w'.cell? ((⟨w.heap.size, 0, none⟩ : Addr).add j) = some u) := Lib.hid (fun w' hb j u hu => by rw [add_lit', Nat.zero_add]; exact (HX0.out.keep hb HX0.out.lt).cellv hu)
  generalize hn : L.length = n at *
  have HN := Lib.hid hn
  clear hn HX0
  go_loopw [9, 10] (fun v9 v10 wr => ∃ lo hi : Nat, v9 = .int .i64 lo ∧ v10 = .int .i64 hi ∧ lo ≤ hi ∧ hi ≤ n ∧ Parted L x lo hi ∧ Below w0.heap.size w0 wr) (fun v9 v10 _ => (intOf v10).toNat - (intOf v9).toNat)
  case atStart => exact ⟨0, n, rfl, rfl, by omega, by omega, HP0.out, Below.refl _ _⟩
  case round =>
    clear HP0
    rename_i wr
    obtain ⟨lo, hi, rfl, rfl, hlh, hin, hpar, hB⟩ := hrel
    have HPAR := Lib.hid hpar
    have HB := Lib.hid hB
    clear hpar hB
    by_cases hlt : lo < hi
    · obtain ⟨m, hme⟩ : ∃ m, m = (lo + hi) / 2 := ⟨_, rfl⟩
      have hmi : ((lo : Int) + (hi : Int)) / 2 = (m : Int) := by omega
      have hml : m < n := by omega
      have hmL : m < L.length := by rw [HN.out]; exact hml
      obtain ⟨a, rfl, _, hc⟩ := Ss.el HS.out hmL
      have HUP := Lib.hid (fun hx => parted_up HPAR.out HA.out hmL hx)
      have HDN := Lib.hid (fun hx => parted_down HPAR.out HA.out hmL hx)
      have HV := Lib.hid (cmpU_vals L[m] x)
      generalize hy : L[m] = y at *
      have HC : Hid (∀ w', Below w0.heap.size w0 w' → ∀ j u, (encU y)[j]? = some u → w'.cell? ((a.add (m * 32)).add j) = some u) := Lib.hid (fun w' hb => hc w' (HW0.out.trans (hb.mono HW0.out.size)))
      have hlb : lo ≤ m := by omega
      have hmh : m < hi := by omega
      have HLB := Lib.hid hlb
      have HMH := Lib.hid hmh
      have k1 : (m : Int) < (n : Int) := by omega
      clear hme hc hy hlb hmh
      go_wp2_with fail
      refine wp_region_org [(0, true), (1, true), (2, true), (3, true), (4, true), (5, true), (6, false), (7, true)] (by kernel_rfl) (by kernel_rfl) (by kernel_rfl) ?_
      replace HB := Lib.hid HB.out.drew
      generalize wr.drew = wd at *
      simp only [pickOrs, List.getElem?_cons_zero, List.getElem?_cons_succ]
      refine org_pure (v := ?_) (by kernel_rfl) ?_ ?_
      rotate_left
      · intro w' hv; clear hv; go_simp; try with_reducible rfl
      try simp only [Act.put, List.setIfInBounds_toArray, List.set_cons_zero, List.set_cons_succ]
      refine org_pure (v := ?_) (by kernel_rfl) ?_ ?_
      rotate_left
      · intro w' hv; clear hv; go_simp; try with_reducible rfl
      try simp only [Act.put, List.setIfInBounds_toArray, List.set_cons_zero, List.set_cons_succ]
      refine org_pure (v := ?_) (by kernel_rfl) ?_ ?_
      rotate_left
      · intro w' hv; clear hv; go_simp; try with_reducible rfl
      try simp only [Act.put, List.setIfInBounds_toArray, List.set_cons_zero, List.set_cons_succ]
      refine org_pure (v := ?_) (by kernel_rfl) ?_ ?_
      rotate_left
      · intro w' hv; clear hv; go_simp; try with_reducible rfl
      try simp only [Act.put, List.setIfInBounds_toArray, List.set_cons_zero, List.set_cons_succ]
      refine org_pure (by kernel_rfl) (fun w' hv => load_su 24 (.tmp 27) rfl _ rfl elSum.2.1 szSum y ((fun w' hv => HC.out w' (HB.out.trans (Below.mono hv HB.out.size))) w' hv)) ?_
      try simp only [Act.put, List.setIfInBounds_toArray, List.set_cons_zero, List.set_cons_succ]
      refine org_pure (by kernel_rfl) (fun w' hv => load_su 24 (.tmp 4) rfl _ rfl elSum.2.1 szSum x ((fun w' hv => HXX.out w' (HB.out.trans (Below.mono hv HB.out.size))) w' hv)) ?_
      try simp only [Act.put, List.setIfInBounds_toArray, List.set_cons_zero, List.set_cons_succ]
      refine org_step (by kernel_rfl) (fun K hK => ?_)
      go_wp2_with fail
      refine (cmpS_any y x _).mono ?_
      rintro e wx ⟨rfl, hb⟩
      have HE := Lib.hid hb
      clear hb
      refine hK _ _ ⟨HE.out, ?_⟩
      clear hK
      try simp only [Act.put, List.setIfInBounds_toArray, List.set_cons_zero, List.set_cons_succ]
      replace HB := Lib.hid (HB.out.trans (HE.out.mono HB.out.size))
      clear HE
      rcases HV.out with hv | hv | hv
      · have HNEW := Lib.hid (HUP.out hv)
        rw [hv]
        clear HV hv HUP HDN
        refine org_pure (v := ?_) (by kernel_rfl) ?_ ?_
        rotate_left
        · intro w' hv; clear hv; go_simp; try with_reducible rfl
        try simp only [Act.put, List.setIfInBounds_toArray, List.set_cons_zero, List.set_cons_succ]
        refine org_nil ?_
        go_wp2_with fail
        go_roundw
        case rel => exact ⟨m + 1, hi, by go_num, rfl, by have := HMH.out; omega, hin, HNEW.out, HB.out⟩
        case measure => have h1 := HLB.out; have h2 := HMH.out; simp [intOf]; omega
      · have HNEW := Lib.hid (HDN.out (by rw [hv]; decide))
        rw [hv]
        clear HV hv HUP HDN
        refine org_pure (v := ?_) (by kernel_rfl) ?_ ?_
        rotate_left
        · intro w' hv; clear hv; go_simp; try with_reducible rfl
        try simp only [Act.put, List.setIfInBounds_toArray, List.set_cons_zero, List.set_cons_succ]
        refine org_nil ?_
        go_wp2_with fail
        go_roundw
        case rel => exact ⟨lo, m, rfl, rfl, by have := HLB.out; omega, by omega, HNEW.out, HB.out⟩
        case measure => have h1 := HLB.out; have h2 := HMH.out; simp [intOf]; omega
      · have HNEW := Lib.hid (HDN.out (by rw [hv]; decide))
        rw [hv]
        clear HV hv HUP HDN
        refine org_pure (v := ?_) (by kernel_rfl) ?_ ?_
        rotate_left
        · intro w' hv; clear hv; go_simp; try with_reducible rfl
        try simp only [Act.put, List.setIfInBounds_toArray, List.set_cons_zero, List.set_cons_succ]
        refine org_nil ?_
        go_wp2_with fail
        go_roundw
        case rel => exact ⟨lo, m, rfl, rfl, by have := HLB.out; omega, by omega, HNEW.out, HB.out⟩
        case measure => have h1 := HLB.out; have h2 := HMH.out; simp [intOf]; omega
    · have hee : lo = hi := by omega
      subst hee
      by_cases hln : lo < n
      · have hlL : lo < L.length := by rw [HN.out]; exact hln
        obtain ⟨a, rfl, _, hc⟩ := Ss.el HS.out hlL
        have HF := Lib.hid (parted_found HPAR.out HA.out hlL)
        have HV := Lib.hid (cmpU_vals L[lo] x)
        generalize hy : L[lo] = y at *
        have HC : Hid (∀ w', Below w0.heap.size w0 w' → ∀ j u, (encU y)[j]? = some u → w'.cell? ((a.add (lo * 32)).add j) = some u) := Lib.hid (fun w' hb => hc w' (HW0.out.trans (hb.mono HW0.out.size)))
        have k1 : (lo : Int) < (n : Int) := by omega
        clear hc hy
        go_wp2_with fail
        refine wp_region_org [(0, true), (1, true), (2, true), (3, true), (4, true), (5, true), (6, true), (7, true), (8, true), (9, true), (10, true), (11, false), (12, true), (13, true), (14, true), (15, true)] (by kernel_rfl) (by kernel_rfl) (by kernel_rfl) ?_
        replace HB := Lib.hid HB.out.drew
        generalize wr.drew = wd at *
        simp only [pickOrs, List.getElem?_cons_zero, List.getElem?_cons_succ]
        refine org_pure (v := ?_) (by kernel_rfl) ?_ ?_
        rotate_left
        · intro w' hv; clear hv; go_simp; try with_reducible rfl
        try simp only [Act.put, List.setIfInBounds_toArray, List.set_cons_zero, List.set_cons_succ]
        refine org_pure (v := ?_) (by kernel_rfl) ?_ ?_
        rotate_left
        · intro w' hv; clear hv; go_simp; try with_reducible rfl
        try simp only [Act.put, List.setIfInBounds_toArray, List.set_cons_zero, List.set_cons_succ]
        refine org_pure (v := ?_) (by kernel_rfl) ?_ ?_
        rotate_left
        · intro w' hv; clear hv; go_simp; try with_reducible rfl
        try simp only [Act.put, List.setIfInBounds_toArray, List.set_cons_zero, List.set_cons_succ]
        refine org_pure (v := ?_) (by kernel_rfl) ?_ ?_
        rotate_left
        · intro w' hv; clear hv; go_simp; try with_reducible rfl
        try simp only [Act.put, List.setIfInBounds_toArray, List.set_cons_zero, List.set_cons_succ]
        refine org_pure (v := ?_) (by kernel_rfl) ?_ ?_
        rotate_left
        · intro w' hv; clear hv; go_simp; try with_reducible rfl
        try simp only [Act.put, List.setIfInBounds_toArray, List.set_cons_zero, List.set_cons_succ]
        refine org_pure (v := ?_) (by kernel_rfl) ?_ ?_
        rotate_left
        · intro w' hv; clear hv; go_simp; try with_reducible rfl
        try simp only [Act.put, List.setIfInBounds_toArray, List.set_cons_zero, List.set_cons_succ]
        refine org_pure (v := ?_) (by kernel_rfl) ?_ ?_
        rotate_left
        · intro w' hv; clear hv; go_simp; try with_reducible rfl
        try simp only [Act.put, List.setIfInBounds_toArray, List.set_cons_zero, List.set_cons_succ]
        refine org_pure (v := ?_) (by kernel_rfl) ?_ ?_
        rotate_left
        · intro w' hv; clear hv; go_simp; try with_reducible rfl
        try simp only [Act.put, List.setIfInBounds_toArray, List.set_cons_zero, List.set_cons_succ]
        refine org_pure (v := ?_) (by kernel_rfl) ?_ ?_
        rotate_left
        · intro w' hv; clear hv; go_simp; try with_reducible rfl
        try simp only [Act.put, List.setIfInBounds_toArray, List.set_cons_zero, List.set_cons_succ]
        refine org_pure (by kernel_rfl) (fun w' hv => load_su 24 (.tmp 43) rfl _ rfl elSum.2.1 szSum y ((fun w' hv => HC.out w' (HB.out.trans (Below.mono hv HB.out.size))) w' hv)) ?_
        try simp only [Act.put, List.setIfInBounds_toArray, List.set_cons_zero, List.set_cons_succ]
        refine org_pure (by kernel_rfl) (fun w' hv => load_su 24 (.tmp 4) rfl _ rfl elSum.2.1 szSum x ((fun w' hv => HXX.out w' (HB.out.trans (Below.mono hv HB.out.size))) w' hv)) ?_
        try simp only [Act.put, List.setIfInBounds_toArray, List.set_cons_zero, List.set_cons_succ]
        refine org_step (by kernel_rfl) (fun K hK => ?_)
        go_wp2_with fail
        refine (cmpS_any y x _).mono ?_
        rintro e wx ⟨rfl, hb⟩
        have HE := Lib.hid hb
        clear hb
        refine hK _ _ ⟨HE.out, ?_⟩
        clear hK
        try simp only [Act.put, List.setIfInBounds_toArray, List.set_cons_zero, List.set_cons_succ]
        replace HB := Lib.hid (HB.out.trans (HE.out.mono HB.out.size))
        clear HE
        rcases HV.out with hv | hv | hv
        · rw [hv] at HF ⊢
          have HR : Hid (decide (x ∈ L) = false) := Lib.hid (by rw [← HF.out]; decide)
          clear HV hv HF
          refine org_pure (v := ?_) (by kernel_rfl) ?_ ?_
          rotate_left
          · intro w' hv; clear hv; go_simp; try with_reducible rfl
          try simp only [Act.put, List.setIfInBounds_toArray, List.set_cons_zero, List.set_cons_succ]
          refine org_pure (v := ?_) (by kernel_rfl) ?_ ?_
          rotate_left
          · intro w' hv; clear hv; go_simp; try with_reducible rfl
          try simp only [Act.put, List.setIfInBounds_toArray, List.set_cons_zero, List.set_cons_succ]
          refine org_pure (v := ?_) (by kernel_rfl) ?_ ?_
          rotate_left
          · intro w' hv; clear hv; go_simp; try with_reducible rfl
          try simp only [Act.put, List.setIfInBounds_toArray, List.set_cons_zero, List.set_cons_succ]
          refine org_pure (v := ?_) (by kernel_rfl) ?_ ?_
          rotate_left
          · intro w' hv; clear hv; go_simp; try with_reducible rfl
          try simp only [Act.put, List.setIfInBounds_toArray, List.set_cons_zero, List.set_cons_succ]
          refine org_nil ?_
          go_wp2_with fail
          (try simp only [Exit.inBlock, Exit.then]); refine bodyPost_ret (results_tmp2 rfl _ _ _) rfl ?_
          exact ⟨⟨lo, congrArg (fun b => Ending.returned (.tuple #[.int .i64 lo, .bool b])) HR.out.symm⟩, HW0.out.trans (HB.out.mono HW0.out.size)⟩
        · rw [hv] at HF ⊢
          have HR : Hid (decide (x ∈ L) = true) := Lib.hid (by rw [← HF.out]; decide)
          clear HV hv HF
          refine org_pure (v := ?_) (by kernel_rfl) ?_ ?_
          rotate_left
          · intro w' hv; clear hv; go_simp; try with_reducible rfl
          try simp only [Act.put, List.setIfInBounds_toArray, List.set_cons_zero, List.set_cons_succ]
          refine org_pure (v := ?_) (by kernel_rfl) ?_ ?_
          rotate_left
          · intro w' hv; clear hv; go_simp; try with_reducible rfl
          try simp only [Act.put, List.setIfInBounds_toArray, List.set_cons_zero, List.set_cons_succ]
          refine org_pure (v := ?_) (by kernel_rfl) ?_ ?_
          rotate_left
          · intro w' hv; clear hv; go_simp; try with_reducible rfl
          try simp only [Act.put, List.setIfInBounds_toArray, List.set_cons_zero, List.set_cons_succ]
          refine org_pure (v := ?_) (by kernel_rfl) ?_ ?_
          rotate_left
          · intro w' hv; clear hv; go_simp; try with_reducible rfl
          try simp only [Act.put, List.setIfInBounds_toArray, List.set_cons_zero, List.set_cons_succ]
          refine org_nil ?_
          go_wp2_with fail
          (try simp only [Exit.inBlock, Exit.then]); refine bodyPost_ret (results_tmp2 rfl _ _ _) rfl ?_
          exact ⟨⟨lo, congrArg (fun b => Ending.returned (.tuple #[.int .i64 lo, .bool b])) HR.out.symm⟩, HW0.out.trans (HB.out.mono HW0.out.size)⟩
        · rw [hv] at HF ⊢
          have HR : Hid (decide (x ∈ L) = false) := Lib.hid (by rw [← HF.out]; decide)
          clear HV hv HF
          refine org_pure (v := ?_) (by kernel_rfl) ?_ ?_
          rotate_left
          · intro w' hv; clear hv; go_simp; try with_reducible rfl
          try simp only [Act.put, List.setIfInBounds_toArray, List.set_cons_zero, List.set_cons_succ]
          refine org_pure (v := ?_) (by kernel_rfl) ?_ ?_
          rotate_left
          · intro w' hv; clear hv; go_simp; try with_reducible rfl
          try simp only [Act.put, List.setIfInBounds_toArray, List.set_cons_zero, List.set_cons_succ]
          refine org_pure (v := ?_) (by kernel_rfl) ?_ ?_
          rotate_left
          · intro w' hv; clear hv; go_simp; try with_reducible rfl
          try simp only [Act.put, List.setIfInBounds_toArray, List.set_cons_zero, List.set_cons_succ]
          refine org_pure (v := ?_) (by kernel_rfl) ?_ ?_
          rotate_left
          · intro w' hv; clear hv; go_simp; try with_reducible rfl
          try simp only [Act.put, List.setIfInBounds_toArray, List.set_cons_zero, List.set_cons_succ]
          refine org_nil ?_
          go_wp2_with fail
          (try simp only [Exit.inBlock, Exit.then]); refine bodyPost_ret (results_tmp2 rfl _ _ _) rfl ?_
          exact ⟨⟨lo, congrArg (fun b => Ending.returned (.tuple #[.int .i64 lo, .bool b])) HR.out.symm⟩, HW0.out.trans (HB.out.mono HW0.out.size)⟩
      · have HR := Lib.hid (parted_none HPAR.out (by rw [HN.out]; exact hln))
        have k1 : ¬ (lo : Int) < (n : Int) := by omega
        go_wp2_with fail
        refine wp_region_org [(0, true), (1, true), (2, true), (3, true), (4, true), (5, true), (6, true), (7, true), (8, true), (9, true), (10, true), (11, false), (12, true), (13, true), (14, true), (15, true)] (by kernel_rfl) (by kernel_rfl) (by kernel_rfl) ?_
        replace HB := Lib.hid HB.out.drew
        generalize wr.drew = wd at *
        simp only [pickOrs, List.getElem?_cons_zero, List.getElem?_cons_succ]
        refine org_pure (v := ?_) (by kernel_rfl) ?_ ?_
        rotate_left
        · intro w' hv; clear hv; go_simp; try with_reducible rfl
        try simp only [Act.put, List.setIfInBounds_toArray, List.set_cons_zero, List.set_cons_succ]
        refine org_pure (v := ?_) (by kernel_rfl) ?_ ?_
        rotate_left
        · intro w' hv; clear hv; go_simp; try with_reducible rfl
        try simp only [Act.put, List.setIfInBounds_toArray, List.set_cons_zero, List.set_cons_succ]
        refine org_pure (v := ?_) (by kernel_rfl) ?_ ?_
        rotate_left
        · intro w' hv; clear hv; go_simp; try with_reducible rfl
        try simp only [Act.put, List.setIfInBounds_toArray, List.set_cons_zero, List.set_cons_succ]
        refine org_pure (v := ?_) (by kernel_rfl) ?_ ?_
        rotate_left
        · intro w' hv; clear hv; go_simp; try with_reducible rfl
        try simp only [Act.put, List.setIfInBounds_toArray, List.set_cons_zero, List.set_cons_succ]
        refine org_pure (v := ?_) (by kernel_rfl) ?_ ?_
        rotate_left
        · intro w' hv; clear hv; go_simp; try with_reducible rfl
        try simp only [Act.put, List.setIfInBounds_toArray, List.set_cons_zero, List.set_cons_succ]
        refine org_skip (by kernel_rfl) ?_
        try simp only [Act.put, List.setIfInBounds_toArray, List.set_cons_zero, List.set_cons_succ]
        refine org_skip (by kernel_rfl) ?_
        try simp only [Act.put, List.setIfInBounds_toArray, List.set_cons_zero, List.set_cons_succ]
        refine org_skip (by kernel_rfl) ?_
        try simp only [Act.put, List.setIfInBounds_toArray, List.set_cons_zero, List.set_cons_succ]
        refine org_skip (by kernel_rfl) ?_
        try simp only [Act.put, List.setIfInBounds_toArray, List.set_cons_zero, List.set_cons_succ]
        refine org_skip (by kernel_rfl) ?_
        try simp only [Act.put, List.setIfInBounds_toArray, List.set_cons_zero, List.set_cons_succ]
        refine org_skip (by kernel_rfl) ?_
        try simp only [Act.put, List.setIfInBounds_toArray, List.set_cons_zero, List.set_cons_succ]
        refine org_pass (by kernel_rfl) ?_
        try simp only [Act.put, List.setIfInBounds_toArray, List.set_cons_zero, List.set_cons_succ]
        refine org_skip (by kernel_rfl) ?_
        try simp only [Act.put, List.setIfInBounds_toArray, List.set_cons_zero, List.set_cons_succ]
        refine org_pure (v := ?_) (by kernel_rfl) ?_ ?_
        rotate_left
        · intro w' hv; clear hv; go_simp; try with_reducible rfl
        try simp only [Act.put, List.setIfInBounds_toArray, List.set_cons_zero, List.set_cons_succ]
        refine org_pure (v := ?_) (by kernel_rfl) ?_ ?_
        rotate_left
        · intro w' hv; clear hv; go_simp; try with_reducible rfl
        try simp only [Act.put, List.setIfInBounds_toArray, List.set_cons_zero, List.set_cons_succ]
        refine org_pure (v := ?_) (by kernel_rfl) ?_ ?_
        rotate_left
        · intro w' hv; clear hv; go_simp; try with_reducible rfl
        try simp only [Act.put, List.setIfInBounds_toArray, List.set_cons_zero, List.set_cons_succ]
        refine org_nil ?_
        go_wp2_with fail
        (try simp only [Exit.inBlock, Exit.then]); refine bodyPost_ret (results_tmp2 rfl _ _ _) rfl ?_
        exact ⟨⟨lo, congrArg (fun b => Ending.returned (.tuple #[.int .i64 lo, .bool b])) HR.out.symm⟩, HW0.out.trans (HB.out.mono HW0.out.size)⟩
set_option maxHeartbeats 4000000 in
theorem has_any (L : List Su) (x : Su) (q : Option Addr) (c : Nat) (hm : L.length ≤ 1000000) (w : World) (hs : Sees w w.heap.size q (rowU L)) :
    Calls Tryd.prog 10 #[.slice q L.length c, .agg (encU x).toArray] w fun e w' => e = .returned (.bool (goodU L && decide (x ∈ L))) ∧ Below w.heap.size w w' := by
  have HW0 := Lib.hid ((Below.refl w.heap.size w).alloc (Nat.le_refl _) (.cells (encU x).toArray 24))
  have HX0 : Hid (Has (w.alloc (.cells (encU x).toArray 24)) w.heap.size 24 (encU x)) := Lib.hid (Has.made' w _ _ _ rfl)
  have HG := Lib.hid (fun w1 (hb : Below w.heap.size w w1) => good_any L q c (by omega) w1 ((hs.keep hb).more hb.size))
  cases hg : goodU L with
  | false =>
    have HF : Hid (goodU L = false) := Lib.hid hg
    rw [hg] at HG
    clear hs hg
    go_enter Tryd.func10, Tryd.ntmps10
    go_wp2_with ((with_reducible refine (HG.out _ HW0.out).mono ?_); rintro e w1 ⟨rfl, h1⟩; have HB1 := Lib.hid (HW0.out.trans (h1.mono HW0.out.size)); clear h1)
    go_ret
    exact ⟨rfl, HB1.out⟩
  | true =>
    have hasc : AscU L := by unfold goodU at hg; simp at hg; exact hg.2
    have HS := Lib.hid (fun w1 (hb : Below w.heap.size w w1) => bsearch_any L hasc x q c hm w1 ((hs.keep hb).more hb.size))
    rw [hg] at HG
    clear hs hg hasc
    go_enter Tryd.func10, Tryd.ntmps10
    go_wp2_with (first
      | ((with_reducible refine (HG.out _ HW0.out).mono ?_); rintro e w1 ⟨rfl, h1⟩; have HX1 : Hid (∀ j u, (encU x)[j]? = some u → w1.cell? ((⟨w.heap.size, 0, none⟩ : Addr).add j) = some u) := Lib.hid (fun j u hu => by rw [add_lit', Nat.zero_add]; exact (HX0.out.keep h1 HX0.out.lt).cellv hu); have HB1 := Lib.hid (HW0.out.trans (h1.mono HW0.out.size)); clear h1)
      | (refine wpList_load_su rfl 24 (.tmp 3) rfl _ rfl elSum.2.1 szSum x HX1.out ?_)
      | ((with_reducible refine (HS.out _ HB1.out).mono ?_); rintro e w2 ⟨⟨i, rfl⟩, h1⟩; have HB2 := Lib.hid (HB1.out.trans (h1.mono HB1.out.size)); clear h1))
    go_ret
    exact ⟨(by rw [Bool.true_and]; rfl), HB2.out⟩
theorem eq_at {A B : List Su} (h : A.length = B.length) (ha : ∀ k (h1 : k < A.length) (h2 : k < B.length), A[k] = B[k]) : A = B := List.ext_getElem h ha
set_option maxHeartbeats 8000000 in
set_option maxRecDepth 100000 in
theorem equal_any (A B : List Su) (qa qb : Option Addr) (ca cb : Nat) (hA : A.length ≤ 1000000) (w : World) (ha : Sees w w.heap.size qa (rowU A)) (hb : Sees w w.heap.size qb (rowU B)) :
    Calls Tryd.prog 33 #[.slice qa A.length ca, .slice qb B.length cb] w fun e w' => e = .returned (.bool (decide (A = B))) ∧ Below w.heap.size w w' := by
  by_cases hl : A.length = B.length
  · have HSA := Lib.hid ha
    have HSB := Lib.hid hb
    have HLL := Lib.hid hl
    clear ha hb
    rw [← hl]
    generalize hn : A.length = n at *
    have HN := Lib.hid hn
    clear hn hl
    go_enter Tryd.func33, Tryd.ntmps33
    go_wp2_with fail
    go_loopw [13] (fun v wr => ∃ i : Nat, i ≤ n ∧ v = .int .i64 i ∧ (∀ k (h1 : k < A.length) (h2 : k < B.length), k < i → A[k] = B[k]) ∧ Below w.heap.size w wr) (fun v _ => n - (intOf v).toNat)
    case atStart => exact ⟨0, by omega, rfl, fun k _ _ h => by omega, Below.refl _ _⟩
    case round =>
      rename_i wr
      obtain ⟨i, hi, rfl, hall, hB⟩ := hrel
      have HALL := Lib.hid hall
      have HB := Lib.hid hB
      clear hall hB
      by_cases hlt : i < n
      · have hiA : i < A.length := by rw [HN.out]; exact hlt
        have hiB : i < B.length := by rw [← HLL.out]; exact hlt
        obtain ⟨a, rfl, _, hc⟩ := Ss.el HSA.out hiA
        obtain ⟨b, rfl, _, hc2⟩ := Ss.el HSB.out hiB
        have HNEW : Hid (A[i] = B[i] → ∀ k (h1 : k < A.length) (h2 : k < B.length), k < i + 1 → A[k] = B[k]) := Lib.hid (fun h k h1 h2 hk => by
          by_cases e : k = i
          · subst e; exact h
          · exact HALL.out k h1 h2 (by omega))
        have HBAD : Hid (A[i] ≠ B[i] → decide (A = B) = false) := Lib.hid (fun h => decide_eq_false fun e => h (by subst e; rfl))
        generalize A[i] = x at *
        generalize B[i] = y at *
        have HC := Lib.hid hc
        have HC2 := Lib.hid hc2
        have k1 : (i : Int) < (n : Int) := by omega
        clear hc hc2
        go_wp2_with fail
        refine wp_region_org [(0, true), (1, true), (2, true), (3, true), (4, true), (5, true), (6, true), (7, true), (8, true)] (by kernel_rfl) (by kernel_rfl) (by kernel_rfl) ?_
        replace HB := Lib.hid HB.out.drew
        generalize wr.drew = wd at *
        simp only [pickOrs, List.getElem?_cons_zero, List.getElem?_cons_succ]
        refine org_pure (v := ?_) (by kernel_rfl) ?_ ?_
        rotate_left
        · intro w' hv; clear hv; go_simp; try with_reducible rfl
        try simp only [Act.put, List.setIfInBounds_toArray, List.set_cons_zero, List.set_cons_succ]
        refine org_pure (v := ?_) (by kernel_rfl) ?_ ?_
        rotate_left
        · intro w' hv; clear hv; go_simp; try with_reducible rfl
        try simp only [Act.put, List.setIfInBounds_toArray, List.set_cons_zero, List.set_cons_succ]
        refine org_pure (v := ?_) (by kernel_rfl) ?_ ?_
        rotate_left
        · intro w' hv; clear hv; go_simp; try with_reducible rfl
        try simp only [Act.put, List.setIfInBounds_toArray, List.set_cons_zero, List.set_cons_succ]
        refine org_pure (by kernel_rfl) (fun w' hv => load_su 24 (.tmp 18) rfl _ rfl elSum.2.1 szSum x ((fun w' hv => HC.out w' (HB.out.trans (Below.mono hv HB.out.size))) w' hv)) ?_
        try simp only [Act.put, List.setIfInBounds_toArray, List.set_cons_zero, List.set_cons_succ]
        refine org_pure (v := ?_) (by kernel_rfl) ?_ ?_
        rotate_left
        · intro w' hv; clear hv; go_simp; try with_reducible rfl
        try simp only [Act.put, List.setIfInBounds_toArray, List.set_cons_zero, List.set_cons_succ]
        refine org_pure (v := ?_) (by kernel_rfl) ?_ ?_
        rotate_left
        · intro w' hv; clear hv; go_simp; try with_reducible rfl
        try simp only [Act.put, List.setIfInBounds_toArray, List.set_cons_zero, List.set_cons_succ]
        refine org_pure (v := ?_) (by kernel_rfl) ?_ ?_
        rotate_left
        · intro w' hv; clear hv; go_simp; try with_reducible rfl
        try simp only [Act.put, List.setIfInBounds_toArray, List.set_cons_zero, List.set_cons_succ]
        refine org_pure (by kernel_rfl) (fun w' hv => load_su 24 (.tmp 22) rfl _ rfl elSum.2.1 szSum y ((fun w' hv => HC2.out w' (HB.out.trans (Below.mono hv HB.out.size))) w' hv)) ?_
        try simp only [Act.put, List.setIfInBounds_toArray, List.set_cons_zero, List.set_cons_succ]
        refine org_pure (by kernel_rfl) (fun w' hv => neq_su 24 (.tmp 19) (.tmp 23) _ rfl x y rfl rfl elSum.2.1 gdSum) ?_
        try simp only [Act.put, List.setIfInBounds_toArray, List.set_cons_zero, List.set_cons_succ]
        refine org_nil ?_
        by_cases hxy : x = y
        · have HN2 := Lib.hid (HNEW.out hxy)
          rw [decide_eq_true hxy]
          clear HNEW HBAD hxy
          go_wp2_with fail
          go_roundw
          case rel => exact ⟨i + 1, by omega, by go_num, HN2.out, HB.out⟩
          case measure => simp [intOf]; omega
        · have HN2 := Lib.hid (HBAD.out hxy)
          rw [decide_eq_false hxy]
          clear HNEW HBAD hxy
          go_wp2_with fail
          go_ret
          exact ⟨congrArg (fun b => Ending.returned (.bool b)) HN2.out.symm, HB.out⟩
      · have hil : i = n := by omega
        subst hil
        have HR : Hid (decide (A = B) = true) := Lib.hid (decide_eq_true (eq_at (by rw [HN.out]; exact HLL.out) fun k h1 h2 => HALL.out k h1 h2 (by rw [← HN.out]; exact h1)))
        have k1 : ¬ (i : Int) < (i : Int) := by omega
        go_wp2_with fail
        go_ret
        exact ⟨congrArg (fun b => Ending.returned (.bool b)) HR.out.symm, HB.out⟩
  · have k1 : ¬ (A.length : Int) = (B.length : Int) := by omega
    have HR : Hid (decide (A = B) = false) := Lib.hid (decide_eq_false fun e => hl (by rw [e]))
    clear ha hb hl
    generalize A.length = n at *
    generalize B.length = m at *
    go_enter Tryd.func33, Tryd.ntmps33
    go_wp2_with fail
    go_ret
    exact ⟨congrArg (fun b => Ending.returned (.bool b)) HR.out.symm, Below.refl _ _⟩
set_option maxHeartbeats 4000000 in
theorem same_any (A B : List Su) (qa qb : Option Addr) (ca cb : Nat) (hA : A.length ≤ 1000000) (w : World) (ha : Sees w w.heap.size qa (rowU A)) (hb : Sees w w.heap.size qb (rowU B)) :
    Calls Tryd.prog 11 #[.slice qa A.length ca, .slice qb B.length cb] w fun e w' => e = .returned (.bool (goodU A && decide (A = B))) ∧ Below w.heap.size w w' := by
  have HG := Lib.hid (good_any A qa ca (by omega) w ha)
  have HE := Lib.hid (fun w1 (hw : Below w.heap.size w w1) => equal_any A B qa qb ca cb hA w1 ((ha.keep hw).more hw.size) ((hb.keep hw).more hw.size))
  clear ha hb
  cases hg : goodU A with
  | false =>
    rw [hg] at HG
    clear hg
    go_enter Tryd.func11, Tryd.ntmps11
    go_wp2_with ((with_reducible refine HG.out.mono ?_); rintro e w1 ⟨rfl, h1⟩; have HB1 := Lib.hid h1; clear h1)
    go_ret
    exact ⟨(by rw [Bool.false_and]; rfl), HB1.out⟩
  | true =>
    rw [hg] at HG
    clear hg
    go_enter Tryd.func11, Tryd.ntmps11
    go_wp2_with (first | ((with_reducible refine HG.out.mono ?_); rintro e w1 ⟨rfl, h1⟩; have HB1 := Lib.hid h1; clear h1) | ((with_reducible refine (HE.out _ HB1.out).mono ?_); rintro e w2 ⟨rfl, h1⟩; have HB2 := Lib.hid (HB1.out.trans (h1.mono HB1.out.size)); clear h1))
    go_ret
    exact ⟨(by rw [Bool.true_and]; rfl), HB2.out⟩
end Go.Proofs.YtlidoikpfodpeaaDoor
/- Package set's calls over values that are told by what they read as: a slice's place, its length, its room, its sums. Condition: at most 10^6 sums each. -/
namespace Go.Proofs.YtlidoikpfodpeaaDoor
open Go.RowKit
/-- The slice of n sums with room c reads as L. -/
def U (w : World) (q : Option Addr) (n c : Nat) (L : List Su) : Prop := L.length = n ∧ n ≤ c ∧ (q = none → c = 0) ∧ Sees w w.heap.size q (rowU L)
theorem U.len {w : World} {q : Option Addr} {n c : Nat} {L : List Su} (h : U w q n c L) : L.length = n := h.1
theorem U.keep {w w' : World} {q : Option Addr} {n c : Nat} {L : List Su} (h : U w q n c L) (hb : Below w.heap.size w w') : U w' q n c L := ⟨h.1, h.2.1, h.2.2.1, (h.2.2.2.keep hb).more hb.size⟩
theorem U.drew {w : World} {q : Option Addr} {n c : Nat} {L : List Su} (h : U w q n c L) : U w.drew q n c L := h
theorem U.of {w : World} {v : Value} {L : List Su} (h : Us w v L) : ∃ q n c, v = .slice q n c ∧ U w q n c L := by
  obtain ⟨q, c, h1, h2, h3, h4⟩ := h
  exact ⟨q, L.length, c, h1, rfl, h2, h3, h4⟩
theorem U.eq {w : World} {q : Option Addr} {n c : Nat} {L M : List Su} (h : U w q n c L) (e : L = M) : U w q n c M := e ▸ h
/-- A call that answers a set. -/
abbrev Ans (P : Program) (f : FuncId) (args : Array Value) (w : World) (L : List Su) : Prop := Calls P f args w fun e w' => (∃ q n c, e = .returned (.slice q n c) ∧ U w' q n c L) ∧ Below w.heap.size w w'
theorem ans_of {f : FuncId} {args : Array Value} {w : World} {L : List Su} {E : TypeId} (h : Calls Tryd.prog f args w fun e w' => (∃ v, e = .returned v ∧ OwnU w' w.heap.size E v L) ∧ Below w.heap.size w w') : Ans Tryd.prog f args w L := by
  refine Calls.mono h ?_
  rintro e w' ⟨⟨v, rfl, h1⟩, h2⟩
  obtain ⟨q, n, c, rfl, h3⟩ := U.of h1.us
  exact ⟨⟨q, n, c, rfl, h3⟩, h2⟩
theorem u_of {w : World} {q : Option Addr} {n c : Nat} {L : List Su} (h : U w q n c L) (hn : n ≤ 1000000) : Ans Tryd.prog 7 #[.slice q n c] w (srt L) := by
  obtain ⟨rfl, h2, h3, h4⟩ := h
  exact ans_of (setOf_any L q c hn w h4)
theorem u_row {w : World} {q : Option Addr} {n c : Nat} {L : List Su} (h : L.length = n ∧ Sees w w.heap.size q (rowU L)) (hn : n ≤ 100000) : Ans Tryd.prog 17 #[.slice q n c] w L := by
  obtain ⟨rfl, h4⟩ := h
  exact ans_of (row_any L q c hn w h4)
theorem u_minus {w : World} {qa qb : Option Addr} {na nb ca cb : Nat} {A B : List Su} (ha : U w qa na ca A) (hb : U w qb nb cb B) (h1 : na ≤ 1000000) (h2 : nb ≤ 1000000) : Ans Tryd.prog 12 #[.slice qa na ca, .slice qb nb cb] w (minU A B) := by
  obtain ⟨rfl, a2, a3, a4⟩ := ha
  obtain ⟨rfl, b2, b3, b4⟩ := hb
  exact ans_of (setMinus_any A B qa qb ca cb h1 h2 a2 b2 a3 b3 w a4 b4)
theorem u_both {w : World} {qa qb : Option Addr} {na nb ca cb : Nat} {A B : List Su} (ha : U w qa na ca A) (hb : U w qb nb cb B) (h1 : na ≤ 1000000) (h2 : nb ≤ 1000000) : Ans Tryd.prog 15 #[.slice qa na ca, .slice qb nb cb] w (botU A B) := by
  obtain ⟨rfl, a2, a3, a4⟩ := ha
  obtain ⟨rfl, b2, b3, b4⟩ := hb
  exact ans_of (setBoth_any A B qa qb ca cb h1 h2 a2 b2 a3 b3 w a4 b4)
theorem u_either {w : World} {qa qb : Option Addr} {na nb ca cb : Nat} {A B : List Su} (ha : U w qa na ca A) (hb : U w qb nb cb B) (h1 : na ≤ 1000000) (h2 : nb ≤ 1000000) : Ans Tryd.prog 16 #[.slice qa na ca, .slice qb nb cb] w (eitU A B) := by
  obtain ⟨rfl, a2, a3, a4⟩ := ha
  obtain ⟨rfl, b2, b3, b4⟩ := hb
  exact ans_of (setEither_any A B qa qb ca cb h1 h2 a2 b2 a3 b3 w a4 b4)
/-- A call that answers yes or no. -/
abbrev Tells (P : Program) (f : FuncId) (args : Array Value) (w : World) (b : Bool) : Prop := Calls P f args w fun e w' => e = .returned (.bool b) ∧ Below w.heap.size w w'
theorem u_same {w : World} {qa qb : Option Addr} {na nb ca cb : Nat} {A B : List Su} (ha : U w qa na ca A) (hb : U w qb nb cb B) (h1 : na ≤ 1000000) (r : Bool) (hr : (goodU A && decide (A = B)) = r) : Tells Tryd.prog 11 #[.slice qa na ca, .slice qb nb cb] w r := by
  obtain ⟨rfl, _, _, a4⟩ := ha
  obtain ⟨rfl, _, _, b4⟩ := hb
  subst hr
  exact same_any A B qa qb ca cb h1 w a4 b4
theorem u_good {w : World} {q : Option Addr} {n c : Nat} {L : List Su} (h : U w q n c L) (hn : n ≤ 1000000) (r : Bool) (hr : goodU L = r) : Tells Tryd.prog 9 #[.slice q n c] w r := by
  obtain ⟨rfl, _, _, h4⟩ := h
  subst hr
  exact good_any L q c (by omega) w h4
theorem u_has {w : World} {q : Option Addr} {n c : Nat} {L : List Su} {x : Su} (h : U w q n c L) (hn : n ≤ 1000000) (r : Bool) (hr : (goodU L && decide (x ∈ L)) = r) : Tells Tryd.prog 10 #[.slice q n c, .agg (encU x).toArray] w r := by
  obtain ⟨rfl, _, _, h4⟩ := h
  subst hr
  exact has_any L x q c hn w h4
theorem goodU_of {L : List Su} (h : AscU L) (hl : L.length ≤ 512) : goodU L = true := by unfold goodU; rw [decide_eq_true h, decide_eq_true hl]; rfl
theorem same_true {A B : List Su} (h : AscU A) (hl : A.length ≤ 512) (e : A = B) : (goodU A && decide (A = B)) = true := by rw [goodU_of h hl, decide_eq_true e]; rfl
end Go.Proofs.YtlidoikpfodpeaaDoor
/- Plain laws of sets: what is apart, what is together. No condition. -/
namespace Go.Proofs.YtlidoikpfodpeaaDoor
theorem sl1 (P Q : List Su) : eitU (eitU (minU P Q) (botU P Q)) (minU Q P) = eitU P Q := ascU_unique (asc_eitU _ _) (asc_eitU _ _) fun z => by
  simp only [mem_eitU, mem_minU, mem_botU]
  by_cases p : z ∈ P <;> by_cases q : z ∈ Q <;> simp [p, q]
theorem sl2 {P : List Su} (h : AscU P) (Q : List Su) : eitU (minU P Q) (botU P Q) = P := ascU_unique (asc_eitU _ _) h fun z => by
  simp only [mem_eitU, mem_minU, mem_botU]
  by_cases p : z ∈ P <;> by_cases q : z ∈ Q <;> simp [p, q]
theorem sl3 (P Q : List Su) : botU (minU P Q) Q = [] := ascU_unique (asc_botU _ _) List.Pairwise.nil fun z => by
  simp only [mem_minU, mem_botU]
  by_cases p : z ∈ P <;> by_cases q : z ∈ Q <;> simp [p, q]
theorem sl4 (P Q : List Su) : botU P Q = botU Q P := ascU_unique (asc_botU _ _) (asc_botU _ _) fun z => by
  simp only [mem_botU]; exact And.comm
theorem sl5 (P Q : List Su) : eitU P Q = eitU Q P := ascU_unique (asc_eitU _ _) (asc_eitU _ _) fun z => by
  simp only [mem_eitU]; exact Or.comm
theorem sl6 (P : List Su) {Q : List Su} (h : AscU Q) : eitU (minU P (minU P Q)) (minU Q P) = Q := ascU_unique (asc_eitU _ _) h fun z => by
  simp only [mem_eitU, mem_minU]
  by_cases p : z ∈ P <;> by_cases q : z ∈ Q <;> simp [p, q]
theorem sl7 (P Q : List Su) : minU (minU P Q) Q = minU P Q := ascU_unique (asc_minU _ _) (asc_minU _ _) fun z => by
  simp only [mem_minU]
  by_cases p : z ∈ P <;> by_cases q : z ∈ Q <;> simp [p, q]
theorem sl8 (P : List Su) : minU P P = [] := ascU_unique (asc_minU _ _) List.Pairwise.nil fun z => by
  simp only [mem_minU]
  by_cases p : z ∈ P <;> simp [p]
theorem sl9 {P : List Su} (h : AscU P) : botU P P = P := ascU_unique (asc_botU _ _) h fun z => by
  simp only [mem_botU]; exact and_self_iff
end Go.Proofs.YtlidoikpfodpeaaDoor
/- Rows of sums in a guarded operation; a literal of a sum; sums told by their first byte. No condition. -/
namespace Go.Proofs.YtlidoikpfodpeaaDoor
open Go.RowKit
section
variable {ops : Array Oper} {rest : List Oper} {o : Oper} {a : Act} {w : World} {Q : Exit → Act → World → Prop}
theorem wpList_one_suOn (hw : Region.wanted o (yielded ops a.tmps) = true) (T E : TypeId) (hT : ElT T E) (x : Operand) (ho : o.op = .buildSlice T 1 #[(0, x)]) (s : Su) (hx : a.eval x = .agg (encU s).toArray)
    (h : wpList Tryd.prog ops Q rest (a.put o.dst (.slice (some ⟨w.heap.size, 0, none⟩) 1 1)) (w.alloc (.cells (encU s).toArray E))) : wpList Tryd.prog ops Q (o :: rest) a w :=
  wpList_step fun K hK => by rw [if_pos hw]; exact wp_one_su T E hT x ho s hx (hK _ _ h)
theorem wpList_lit_suOn (hw : Region.wanted o (yielded ops a.tmps) = true) (T E : TypeId) (hT : ElT T E) (n : Nat) (parts : Array (Nat × Operand)) (ho : o.op = .buildSlice T n parts) (L : List Su) (hn : L.length = n) (h0 : 0 < n) (h9 : n ≤ 1000)
    (hx : (parts.map fun (i, x) => (i, a.eval x)).toList = ((L.map aggU).zipIdx 0).map fun x => (x.2, x.1))
    (h : wpList Tryd.prog ops Q rest (a.put o.dst (.slice (some ⟨w.heap.size, 0, none⟩) n n)) (w.alloc (.cells (rowU L).toArray E))) : wpList Tryd.prog ops Q (o :: rest) a w :=
  wpList_step fun K hK => by rw [if_pos hw]; exact wp_lit_su T E hT n parts ho L hn h0 h9 hx (hK _ _ h)
theorem wpList_none_suOn (hw : Region.wanted o (yielded ops a.tmps) = true) (T E : TypeId) (hT : ElT T E) (ho : o.op = .buildSlice T 0 #[])
    (h : wpList Tryd.prog ops Q rest (a.put o.dst (.slice (some ⟨w.heap.size, 0, none⟩) 0 0)) (w.alloc (.cells #[] E))) : wpList Tryd.prog ops Q (o :: rest) a w :=
  wpList_step fun K hK => by rw [if_pos hw]; exact wp_none_su T E hT ho (hK _ _ h)
theorem wpList_append_suOn (hw : Region.wanted o (yielded ops a.tmps) = true) (T E : TypeId) (hT : ElT T E) (s x : Operand) (ho : o.op = .call { callee := .builtin .append, args := #[s, x], argTypes := #[T, T] })
    (base : Nat) (v : Value) (L : List Su) (hs : a.eval s = v) (hown : OwnU w base E v L)
    (q : Option Addr) (M : List Su) (m cap b : Nat) (hm : M.length = m) (hx : a.eval x = .slice q m cap) (hq : q = none → cap = 0) (hl : Sees w b q (rowU M))
    (hn : L.length + m ≤ 4000000) (hbase : base ≤ w.heap.size)
    (h : ∀ v' w', OwnU w' base E v' (L ++ M) → Below base w w' → wpList Tryd.prog ops Q rest (a.put o.dst v') w') : wpList Tryd.prog ops Q (o :: rest) a w :=
  wpList_step fun K hK => by
    rw [if_pos hw]
    exact wp_append_su T E hT s x ho base v L hs hown q M m cap b hm hx hq hl hn hbase fun v' w' h1 h2 => hK _ _ (h v' w' h1 ((Below.refl base w).grown h2 hbase (fun k hk => hown.base k hk)))
/-- A sum written out. -/
theorem wpList_build_su (hw : Region.wanted o (yielded ops a.tmps) = true) (E : TypeId) (parts : Array (Nat × Operand)) (ho : o.op = .build E parts) (s : Su) (l : List (Nat × Value)) (hl : (parts.map fun (i, x) => (i, a.eval x)).toList = l) (hb : Tryd.prog.built E l = some (encU s).toArray)
    (h : wpList Tryd.prog ops Q rest (a.put o.dst (.agg (encU s).toArray)) w) : wpList Tryd.prog ops Q (o :: rest) a w :=
  wpList_step fun K hK => by
    rw [if_pos hw]
    unfold Oper.wp execOp
    simp only [ho, Sem.run_bind, run_build w E _ (encU s).toArray (by rw [hl]; exact hb), Result.andThen_ok]
    exact hK _ _ h
end
/-- A sum of these two bytes, then noughts. -/
def su2 (a b : BitVec 8) : Su := ⟨a :: b :: List.replicate 30 0, by simp⟩
def su1 (a : BitVec 8) : Su := su2 a 0
theorem built_one (x : Int) (b : BitVec 8) (h : x = B b) : Tryd.prog.built 24 [(0, .int .u8 x)] = some (encU (su1 b)).toArray := by
  subst h; kernel_rfl
theorem encU_su2 (a b : BitVec 8) : encU (su2 a b) = u8v a :: u8v b :: List.replicate 30 (.int .u8 0) := by
  simp [encU, su2, u8v, B]
end Go.Proofs.YtlidoikpfodpeaaDoor
