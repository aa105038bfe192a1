/- Plain laws: Go's arithmetic on uint32 and uint8 is that of bit vectors. No condition. -/
import Derived.WalkKit
namespace Go.Proofs.YtnkcehmgagpadaaDoor

/-- A word, a byte as Go's integers. -/
def N (x : BitVec 32) : Int := (x.toNat : Int)
def B (x : BitVec 8) : Int := (x.toNat : Int)

theorem N_nonneg (x : BitVec 32) : 0 ≤ N x := by unfold N; omega
theorem B_inj {x y : BitVec 8} (h : B x = B y) : x = y := by unfold B at h; exact BitVec.eq_of_toNat_eq (by omega)
theorem ofInt_N (x : BitVec 32) : BitVec.ofInt 32 (N x) = x := by unfold N; rw [BitVec.ofInt_natCast, BitVec.ofNat_toNat, BitVec.setWidth_eq]
theorem ofInt_B (x : BitVec 8) : BitVec.ofInt 8 (B x) = x := by unfold B; rw [BitVec.ofInt_natCast, BitVec.ofNat_toNat, BitVec.setWidth_eq]
theorem wrap_N (x : BitVec 32) : IntKind.u32.wrap (x.toNat : Int) = N x := by rw [IntKind.wrap_u32']; unfold N; have := x.isLt; omega
theorem wrap_B (x : BitVec 8) : IntKind.u8.wrap (x.toNat : Int) = B x := by rw [IntKind.wrap_u8']; unfold B; have := x.isLt; omega

theorem N_and (x y : BitVec 32) : bits .and .u32 (N x) (N y) = N (x &&& y) := by
  show IntKind.u32.wrap ((BitVec.ofInt 32 (N x) &&& BitVec.ofInt 32 (N y)).toNat : Int) = _
  rw [ofInt_N, ofInt_N, wrap_N]
theorem N_or (x y : BitVec 32) : bits .or .u32 (N x) (N y) = N (x ||| y) := by
  show IntKind.u32.wrap ((BitVec.ofInt 32 (N x) ||| BitVec.ofInt 32 (N y)).toNat : Int) = _
  rw [ofInt_N, ofInt_N, wrap_N]
theorem N_xor (x y : BitVec 32) : bits .xor .u32 (N x) (N y) = N (x ^^^ y) := by
  show IntKind.u32.wrap ((BitVec.ofInt 32 (N x) ^^^ BitVec.ofInt 32 (N y)).toNat : Int) = _
  rw [ofInt_N, ofInt_N, wrap_N]
theorem N_not (x : BitVec 32) : bits .xor .u32 4294967295 (N x) = N (~~~x) := by
  have : (4294967295 : Int) = N (BitVec.allOnes 32) := rfl
  rw [this, N_xor, BitVec.allOnes_xor]
theorem N_not' (x : BitVec 32) : bits .xor .u32 IntKind.u32.max (N x) = N (~~~x) := N_not x
theorem u32_signed : IntKind.u32.signed = false := rfl
theorem N_add (x y : BitVec 32) : IntKind.u32.wrap (N x + N y) = N (x + y) := by
  rw [IntKind.wrap_u32']; unfold N; rw [BitVec.toNat_add]; omega
theorem N_shl (x : BitVec 32) (k : Nat) : IntKind.u32.wrap (N x * 2 ^ k) = N (x <<< k) := by
  rw [IntKind.wrap_u32']; unfold N; rw [BitVec.toNat_shiftLeft, Nat.shiftLeft_eq]; simp
theorem N_shr (x : BitVec 32) (k : Nat) : N x / 2 ^ k = N (x >>> k) := by
  unfold N; rw [BitVec.toNat_ushiftRight, Nat.shiftRight_eq_div_pow]; simp
theorem B_xor (x y : BitVec 8) : bits .xor .u8 (B x) (B y) = B (x ^^^ y) := by
  show IntKind.u8.wrap ((BitVec.ofInt 8 (B x) ^^^ BitVec.ofInt 8 (B y)).toNat : Int) = _
  rw [ofInt_B, ofInt_B, wrap_B]
/-- A byte as a word; a word's low byte. -/
def w8 (x : BitVec 8) : BitVec 32 := x.setWidth 32
def b32 (x : BitVec 32) : BitVec 8 := x.setWidth 8
theorem N_of_B (x : BitVec 8) : IntKind.u32.wrap (B x) = N (w8 x) := by
  rw [IntKind.wrap_u32']; unfold B N w8; rw [BitVec.toNat_setWidth]; simp
theorem B_of_N (x : BitVec 32) : IntKind.u8.wrap (N x) = B (b32 x) := by
  rw [IntKind.wrap_u8']; unfold B N b32; rw [BitVec.toNat_setWidth]; simp

theorem N_shl24 (x : BitVec 32) : IntKind.u32.wrap (N x * 16777216) = N (x <<< 24) := N_shl x 24
theorem N_shl16 (x : BitVec 32) : IntKind.u32.wrap (N x * 65536) = N (x <<< 16) := N_shl x 16
theorem N_shl8 (x : BitVec 32) : IntKind.u32.wrap (N x * 256) = N (x <<< 8) := N_shl x 8
theorem N_sr (x : BitVec 32) (yk : IntKind) (k : Nat) (hk : k ≤ 32) (y : Int) (hy : y = (k : Int)) : Op.shift .shr .u32 (N x) yk y = pure (.int .u32 (N (x >>> k))) := by
  subst hy
  rw [shift_shr_any _ _ _ _ (by omega)]
  have : min ((k : Int).toNat) IntKind.u32.bits = k := by show min _ 32 = k; omega
  rw [this, N_shr]
theorem N_sr3 (x : BitVec 32) (yk : IntKind) : Op.shift .shr .u32 (N x) yk 3 = pure (.int .u32 (N (x >>> 3))) := N_sr x yk 3 (by omega) _ rfl
theorem N_sr10 (x : BitVec 32) (yk : IntKind) : Op.shift .shr .u32 (N x) yk 10 = pure (.int .u32 (N (x >>> 10))) := N_sr x yk 10 (by omega) _ rfl
theorem N_sr8 (x : BitVec 32) (yk : IntKind) : Op.shift .shr .u32 (N x) yk 8 = pure (.int .u32 (N (x >>> 8))) := N_sr x yk 8 (by omega) _ rfl
theorem N_sr16 (x : BitVec 32) (yk : IntKind) : Op.shift .shr .u32 (N x) yk 16 = pure (.int .u32 (N (x >>> 16))) := N_sr x yk 16 (by omega) _ rfl
theorem N_sr24 (x : BitVec 32) (yk : IntKind) : Op.shift .shr .u32 (N x) yk 24 = pure (.int .u32 (N (x >>> 24))) := N_sr x yk 24 (by omega) _ rfl
/-- A word turned to the right. -/
def rotr (x : BitVec 32) (k : Nat) : BitVec 32 := (x >>> k) ||| (x <<< (32 - k))
theorem rotr_of (x : BitVec 32) (k : Nat) (u v : Int) (hu : u = 2 ^ (32 - k)) (hv : v = 2 ^ k) :
    bits .or .u32 (IntKind.u32.wrap (N x * u)) (N x / v) = N (rotr x k) := by
  subst hu hv
  rw [N_shl, N_shr, N_or, BitVec.or_comm]; rfl
end Go.Proofs.YtnkcehmgagpadaaDoor
