/- Contracts: poly.next, times, behind, Join. No condition. -/
import Derived.Test.YtpfckamobjcdhabDoorProg
import Derived.Test.YtpfckamobjcdhabDoorBv
import Derived.Test.YtpfckamobjcdhabDoorCrc
import Derived.Lib.Hide
import Derived.IntWalk
namespace Go.Proofs.YtpfckamobjcdhabDoor
open Go.RowKit
theorem N_and1 (p : BitVec 32) : bits .and .u32 (N p) 1 = if p.getLsbD 0 then 1 else 0 := by
  have e : bits .and .u32 (N p) 1 = N (p &&& 1#32) := N_and p 1#32
  rw [e]
  have h : p &&& 1#32 = if p.getLsbD 0 then 1#32 else 0#32 := by
    apply BitVec.eq_of_getLsbD_eq; intro i hi
    rw [BitVec.getLsbD_and, BitVec.getLsbD_one]
    by_cases h0 : i = 0
    · subst h0; cases p.getLsbD 0 <;> simp
    · cases p.getLsbD 0 <;> simp [h0, BitVec.getLsbD_one]
  rw [h]
  cases p.getLsbD 0 <;> rfl
theorem N_and31 (p : BitVec 32) : bits .and .u32 (N p) 2147483648 = if p.getLsbD 31 then 2147483648 else 0 := by
  have e : bits .and .u32 (N p) 2147483648 = N (p &&& bit32 31) := N_and p 0x80000000#32
  rw [e]
  have h : p &&& bit32 31 = if p.getLsbD 31 then bit32 31 else 0#32 := by
    apply BitVec.eq_of_getLsbD_eq; intro i hi
    rw [BitVec.getLsbD_and, bit32_get 31 i hi]
    by_cases h0 : i = 31
    · subst h0; rw [decide_eq_true rfl]; cases p.getLsbD 31
      · simp
      · simp [show (bit32 31).getLsbD 31 = true from by decide]
    · cases p.getLsbD 31 <;> simp [h0, bit32_get 31 i hi]
  rw [h]
  cases p.getLsbD 31 <;> rfl
theorem N_sr1 (x : BitVec 32) (yk : IntKind) : Op.shift .shr .u32 (N x) yk 1 = pure (.int .u32 (N (x >>> 1))) := N_sr x yk 1 (by omega) _ rfl
theorem N_sr4 (x : BitVec 32) (yk : IntKind) : Op.shift .shr .u32 (N x) yk 4 = pure (.int .u32 (N (x >>> 4))) := N_sr x yk 4 (by omega) _ rfl
theorem N_dvs (x : BitVec 32) : bits .xor .u32 (N x) 3988292384 = N (x ^^^ dvs) := N_xor x dvs
theorem N_eq0 (x : BitVec 32) : (N x = 0) = (x = 0#32) := by
  apply propext
  constructor
  · intro h; exact N_inj (y := 0#32) h
  · rintro rfl; rfl
set_option maxHeartbeats 400000 in
theorem next_any (p : BitVec 32) (w : World) :
    Calls Tryd.prog 44 #[.int .u32 (N p)] w fun e w' => e = .returned (.int .u32 (N (nx p))) ∧ w = w' := by
  have h1 := N_and1 p
  have h2 := N_sr1 p
  have h3 := N_dvs (p >>> 1)
  cases hc : p.getLsbD 0
  · rw [hc] at h1
    have hn : nx p = p >>> 1 := by unfold nx; rw [hc]; simp
    have HN := Lib.hid hn
    clear hc hn h3
    simp only [Bool.false_eq_true, if_false] at h1
    go_enter Tryd.func44, Tryd.ntmps44
    go_wp2_with fail
    go_ret
    exact ⟨by rw [HN.out]; rfl, rfl⟩
  · rw [hc] at h1
    have hn : nx p = (p >>> 1) ^^^ dvs := by unfold nx; rw [hc]; simp
    have HN := Lib.hid hn
    clear hc hn
    simp only [if_true] at h1
    go_enter Tryd.func44, Tryd.ntmps44
    go_wp2_with fail
    go_ret
    exact ⟨by rw [HN.out]; rfl, rfl⟩

theorem N_shl1 (x : BitVec 32) : IntKind.u32.wrap (N x * 2) = N (x <<< 1) := N_shl x 1
theorem N_ne0 (x : BitVec 32) : (N x = 0) ↔ (x = 0#32) := by rw [N_eq0]
/-- How often p can still be moved up. -/
def ups : Nat → BitVec 32 → Nat
  | 0, _ => 0
  | k + 1, p => if p = 0#32 then 0 else 1 + ups k (p <<< 1)
theorem shl_zero (p : BitVec 32) : (p <<< 1) <<< 31 = 0#32 := by
  rw [← BitVec.shiftLeft_add]; exact BitVec.shiftLeft_eq_zero (by omega)
theorem ups_more : ∀ (k : Nat) (p : BitVec 32), p <<< k = 0#32 → ups (k + 1) p = ups k p
  | 0, p, h => by
    have h' : p = 0#32 := by simpa using h
    rw [ups, ups, if_pos h']
  | k + 1, p, h => by
    rw [ups]
    conv => rhs; rw [ups]
    rw [ups_more k (p <<< 1) (by rw [← BitVec.shiftLeft_add, Nat.add_comm]; exact h)]
theorem ups_less (p : BitVec 32) (h : p ≠ 0#32) : ups 32 (p <<< 1) < ups 32 p := by
  have h1 : ups 32 p = 1 + ups 31 (p <<< 1) := by
    have : ups (31 + 1) p = 1 + ups 31 (p <<< 1) := by rw [ups, if_neg h]
    exact this
  have h2 : ups 32 (p <<< 1) = ups 31 (p <<< 1) := ups_more 31 _ (shl_zero p)
  omega
theorem tm_more : ∀ (k : Nat) (p q : BitVec 32), p <<< k = 0#32 → tm (k + 1) p q = tm k p q
  | 0, p, q, h => by
    have h' : p = 0#32 := by simpa using h
    rw [h', tm_zero, tm_zero]
  | k + 1, p, q, h => by
    rw [tm]
    conv => rhs; rw [tm]
    rw [tm_more k (p <<< 1) (nx q) (by rw [← BitVec.shiftLeft_add, Nat.add_comm]; exact h)]
theorem tm_step (a p q : BitVec 32) : a ^^^ tm 32 p q = (if p.getLsbD 31 then a ^^^ q else a) ^^^ tm 32 (p <<< 1) (nx q) := by
  have h : tm 32 (p <<< 1) (nx q) = tm 31 (p <<< 1) (nx q) := tm_more 31 (p <<< 1) (nx q) (shl_zero p)
  have h2 : tm 32 p q = (if p.getLsbD 31 then q else 0#32) ^^^ tm 31 (p <<< 1) (nx q) := by
    have : tm (31 + 1) p q = (if p.getLsbD 31 then q else 0#32) ^^^ tm 31 (p <<< 1) (nx q) := by rw [tm]
    exact this
  rw [h, h2]
  cases p.getLsbD 31
  · simp
  · simp [BitVec.xor_assoc]
set_option maxHeartbeats 1000000 in
theorem times_any (p q : BitVec 32) (w : World) :
    Calls Tryd.prog 37 #[.int .u32 (N p), .int .u32 (N q)] w fun e w' => e = .returned (.int .u32 (N (tm 32 p q))) ∧ w = w' := by
  obtain ⟨R, hR⟩ : ∃ R, R = tm 32 p q := ⟨_, rfl⟩
  rw [← hR]
  have HR : Hid (0#32 ^^^ tm 32 p q = R) := Lib.hid (by rw [hR, BitVec.zero_xor])
  clear hR
  go_enter Tryd.func37, Tryd.ntmps37
  go_wp2_with fail
  go_loop [0, 1, 5] (fun vp vq va => ∃ P Q A : BitVec 32, vp = .int .u32 (N P) ∧ vq = .int .u32 (N Q) ∧ va = .int .u32 (N A) ∧ A ^^^ tm 32 P Q = R) (fun vp _ _ => ups 32 (BitVec.ofInt 32 (intOf vp)))
  case atStart => exact ⟨p, q, 0#32, rfl, rfl, rfl, HR.out⟩
  case round =>
    clear HR
    obtain ⟨P, Q, A, rfl, rfl, rfl, hT⟩ := hrel
    by_cases hp : P = 0#32
    · have hA : A = R := by rw [hp, tm_zero, BitVec.xor_zero] at hT; exact hT
      have HA := Lib.hid hA
      have h0 : (N P == 0) = true := by rw [hp]; rfl
      have h1 : (N P != 0) = false := by rw [hp]; rfl
      clear hT hA
      go_wp2_with fail
      go_ret
      exact ⟨by rw [← HA.out]; rfl, rfl⟩
    · have hs := tm_step A P Q
      rw [hT] at hs
      have hu := ups_less P hp
      have hn : ¬ N P = 0 := by rw [N_eq0]; exact hp
      have h0 : (N P == 0) = false := by simpa using hn
      have h1 : (N P != 0) = true := by simpa using hn
      have h31 := N_and31 P
      have hsh := N_shl1 P
      have hx := N_xor A Q
      have HU : Hid (ups 32 (BitVec.ofInt 32 (intOf (.int .u32 (N (P <<< 1))))) < ups 32 (BitVec.ofInt 32 (intOf (.int .u32 (N P))))) := Lib.hid (by simpa [intOf, ofInt_N] using hu)
      clear hT hu hp hn
      cases hc : P.getLsbD 31
      · rw [hc] at hs h31
        simp only [Bool.false_eq_true, if_false] at hs h31
        have HS := Lib.hid hs
        clear hs hc
        go_wp2_with (refine (next_any Q _).mono ?_; rintro e w1 ⟨rfl, rfl⟩)
        go_round
        case rel => exact ⟨P <<< 1, nx Q, A, rfl, rfl, rfl, HS.out.symm⟩
        case measure => exact HU.out
      · rw [hc] at hs h31
        simp only [if_true] at hs h31
        have HS := Lib.hid hs
        clear hs hc
        go_wp2_with (refine (next_any Q _).mono ?_; rintro e w1 ⟨rfl, rfl⟩)
        go_round
        case rel => exact ⟨P <<< 1, nx Q, A ^^^ Q, rfl, rfl, rfl, HS.out.symm⟩
        case measure => exact HU.out

theorem i64_and1 (n : Int) (h0 : 0 ≤ n) (h1 : n ≤ 9223372036854775807) : bits .and .i64 n 1 = n % 2 := by
  obtain ⟨m, rfl⟩ := Int.eq_ofNat_of_zero_le h0
  show IntKind.i64.wrap ((BitVec.ofInt 64 (m : Int) &&& BitVec.ofInt 64 1).toNat : Int) = _
  have e : (BitVec.ofInt 64 (m : Int) &&& BitVec.ofInt 64 1).toNat = m % 2 := by
    rw [BitVec.toNat_and, BitVec.ofInt_natCast, BitVec.toNat_ofNat, Nat.mod_eq_of_lt (by omega)]
    exact Nat.and_one_is_mod m
  rw [e, IntWalk.i64_in _ (by omega)]; omega
/-- What a rest is taken times for n bytes behind it; what Join tells. -/
def powN (n : Int) : BitVec 32 := nxs (8 * n.toNat) onep
def joinN (a b : BitVec 32) (n : Int) : BitVec 32 := nxs (8 * n.toNat) a ^^^ b
theorem tm_powN (a : BitVec 32) (n : Int) : tm 32 a (powN n) = nxs (8 * n.toNat) a := tm_pow a _
theorem pow_odd (j s n : Nat) (h : n % 2 = 1) : (j + s) + (s + s) * (n / 2) = j + s * n := by
  have : n = 2 * (n / 2) + 1 := by omega
  generalize n / 2 = m at *
  subst this
  rw [Nat.mul_add, Nat.add_mul, Nat.mul_one, show s * (2 * m) = s * m + s * m by rw [Nat.two_mul, Nat.mul_add]]; omega
theorem pow_even (j s n : Nat) (h : n % 2 = 0) : j + (s + s) * (n / 2) = j + s * n := by
  have : n = 2 * (n / 2) := by omega
  generalize n / 2 = m at *
  subst this
  rw [Nat.add_mul, show s * (2 * m) = s * m + s * m by rw [Nat.two_mul, Nat.mul_add]]
set_option maxHeartbeats 1000000 in
theorem behind_any (n : Int) (hn : n ≤ 9223372036854775807) (w : World) :
    Calls Tryd.prog 38 #[.int .i64 n] w fun e w' => e = .returned (.int .u32 (N (powN n))) ∧ w = w' := by
  obtain ⟨R, hR⟩ : ∃ R, R = powN n := ⟨_, rfl⟩
  rw [← hR]
  have HR : Hid (powN n = R) := Lib.hid hR.symm
  clear hR
  by_cases hneg : n ≤ 0
  · have h0 : ¬ (0 : Int) < n := by omega
    have HA : Hid (onep = R) := Lib.hid (by rw [← HR.out]; unfold powN; rw [show n.toNat = 0 by omega]; rfl)
    clear hneg hn HR
    go_enter Tryd.func38, Tryd.ntmps38
    go_wp2_with fail
    go_loop [0, 3, 4] (fun vn va vs => vn = .int .i64 n ∧ va = .int .u32 (N onep)) (fun _ _ _ => 0)
    case atStart => exact ⟨rfl, rfl⟩
    case round =>
      obtain ⟨rfl, rfl⟩ := hrel
      go_wp2_with fail
      go_ret
      exact ⟨by rw [← HA.out]; rfl, rfl⟩
  · obtain ⟨m, rfl⟩ := Int.eq_ofNat_of_zero_le (show 0 ≤ n by omega)
    have HR2 : Hid (nxs (0 + 8 * m) onep = R) := Lib.hid (by rw [← HR.out, Nat.zero_add]; rfl)
    clear hneg HR
    go_enter Tryd.func38, Tryd.ntmps38
    go_wp2_with fail
    go_loop [0, 3, 4] (fun vn va vs => ∃ k j s : Nat, (k : Int) ≤ 9223372036854775807 ∧ vn = .int .i64 k ∧ va = .int .u32 (N (nxs j onep)) ∧ vs = .int .u32 (N (nxs s onep)) ∧ nxs (j + s * k) onep = R) (fun vn _ _ => (intOf vn).toNat)
    case atStart => exact ⟨m, 0, 8, hn, rfl, rfl, by rw [nx_one]; rfl, HR2.out⟩
    case round =>
      clear HR2 hn
      obtain ⟨k, j, s, hk, rfl, rfl, rfl, hT⟩ := hrel
      by_cases h0 : k = 0
      · subst h0
        have HT : Hid (nxs j onep = R) := Lib.hid (by rw [← hT, Nat.mul_zero, Nat.add_zero])
        clear hT
        go_wp2_with fail
        go_ret
        exact ⟨by rw [← HT.out]; rfl, rfl⟩
      · have hpos : (0 : Int) < (k : Int) := by omega
        have ha := i64_and1 (k : Int) (by omega) hk
        have t1 := times_any (nxs j onep) (nxs s onep)
        have t2 := times_any (nxs s onep) (nxs s onep)
        rw [tm_pows] at t1 t2
        have T1 := Lib.hid t1
        have T2 := Lib.hid t2
        clear t1 t2
        by_cases hodd : k % 2 = 1
        · have h1 : (k : Int) % 2 = 1 := by omega
          rw [h1] at ha
          have HT := Lib.hid ((congrArg (fun x => nxs x onep) (pow_odd j s k hodd)).trans hT)
          clear hT hodd h1
          go_wp2_with (first | ((with_reducible refine (T1.out _).mono ?_); rintro e w1 ⟨rfl, rfl⟩) | ((with_reducible refine (T2.out _).mono ?_); rintro e w1 ⟨rfl, rfl⟩))
          go_round
          case rel => exact ⟨k / 2, j + s, s + s, by omega, by go_num, rfl, rfl, HT.out⟩
          case measure => simp [intOf]; omega
        · have h1 : (k : Int) % 2 = 0 := by omega
          rw [h1] at ha
          have HT := Lib.hid ((congrArg (fun x => nxs x onep) (pow_even j s k (by omega))).trans hT)
          clear hT hodd h1
          go_wp2_with ((with_reducible refine (T2.out _).mono ?_); rintro e w1 ⟨rfl, rfl⟩)
          go_round
          case rel => exact ⟨k / 2, j, s + s, by omega, by go_num, rfl, rfl, HT.out⟩
          case measure => simp [intOf]; omega
set_option maxHeartbeats 400000 in
theorem join_any (a b : BitVec 32) (n : Int) (hn : n ≤ 9223372036854775807) (w : World) :
    Calls Tryd.prog 20 #[.int .u32 (N a), .int .u32 (N b), .int .i64 n] w fun e w' => e = .returned (.int .u32 (N (joinN a b n))) ∧ w = w' := by
  have B1 := Lib.hid (behind_any n hn)
  have t1 := times_any a (powN n)
  rw [tm_powN] at t1
  have T1 := Lib.hid t1
  have hx := N_xor (nxs (8 * n.toNat) a) b
  clear t1 hn
  go_enter Tryd.func20, Tryd.ntmps20
  go_wp2_with (first | ((with_reducible refine (B1.out _).mono ?_); rintro e w1 ⟨rfl, rfl⟩) | ((with_reducible refine (T1.out _).mono ?_); rintro e w1 ⟨rfl, rfl⟩))
  go_ret
  exact ⟨rfl, rfl⟩
end Go.Proofs.YtpfckamobjcdhabDoor
