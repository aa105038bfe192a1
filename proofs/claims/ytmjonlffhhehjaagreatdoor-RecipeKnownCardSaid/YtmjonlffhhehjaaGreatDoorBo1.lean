/- Contract: chunk.Names: the pieces' sums. Conditions: at most a million bytes, no longer than their room; the sums' tables are laid. -/
import Derived.Test.YtmjonlffhhehjaaGreatDoorBs1
import Derived.Test.YtmjonlffhhehjaaGreatDoorBa1
import Derived.Test.YtmjonlffhhehjaaGreatDoorBt2
import Derived.MapKept
import Derived.WideMake
import Derived.WideKeyArr
import Derived.WideKeyArr2
import Derived.Test.YtmjonlffhhehjaaGreatDoorBg1
import Derived.WalkKit
namespace Go.Proofs.YtmjonlffhhehjaaGreatDoor
open Go.RowKit
def namesU (b : List (BitVec 8)) : List Su := (cutP b).map (·.1)
theorem namesU_length (b : List (BitVec 8)) : (namesU b).length ≤ b.length := by unfold namesU; rw [List.length_map, cutP_length]; exact endsL_count plR_ok b
theorem made_runSu (n : Nat) (hn : n ≤ 1000000) (w : World) :
    (Instr.makeSlice 32 (.int .i64 0) (.int .i64 (n : Int))).run Tryz.prog w = .ok (.slice (some ⟨w.heap.size, 0, none⟩) 0 n) (w.alloc (.cells (madeCells (Array.replicate 32 (Value.int .u8 0)) (n * 32)) 31)) := by
  obtain ⟨i0, hi, hz0, hz1, hz2⟩ := info_parts elSum.2.2
  have := run_make (P := Tryz.prog) w 32 31 i0 _ elSum.1 hi hz0 .i64 .i64 0 n (by omega) (by omega) (by rw [hz2]; omega) (by omega)
  rw [hz1, show (Value.agg (Array.replicate 32 (Value.int .u8 0))).cells = Array.replicate 32 (Value.int .u8 0) from rfl] at this
  simpa using this
set_option maxHeartbeats 4000000 in
set_option maxRecDepth 100000 in
theorem names_any (b : List (BitVec 8)) (q : Option Addr) (c : Nat) (w : World) (hc : b.length ≤ c) (hq : q = none → c = 0) (hl : b.length ≤ 1000000) (hs : Sees w w.heap.size q (b.map u8v)) (hL : Laid w) :
    Calls Tryz.prog 79 #[.slice q b.length c] w fun e w' => (∃ v, e = .returned v ∧ OwnU w' w.heap.size 31 v (namesU b)) ∧ Below w.heap.size w w' := by
  have HC := Lib.hid (ccut_any b q c w hc hq hl hs hL)
  have HNL : Hid ((cutP b).length ≤ 1000000) := Lib.hid (by rw [cutP_length]; exact Nat.le_trans (endsL_count plR_ok b) hl)
  have HNA : Hid (namesU b = (cutP b).map (·.1)) := Lib.hid rfl
  generalize cutP b = X at *
  clear hs hL
  go_enter Tryz.func79, Tryz.ntmps79
  go_upto_region 2 with ((with_reducible refine HC.out.mono ?_); rintro e w4 ⟨⟨v4, LP, rfl, ⟨q5, c5, rfl, hlc, hq5, hse⟩, hpb, hkey⟩, hB⟩; have HB4 := Lib.hid hB; have HSE := Lib.hid hse; have HPB := Lib.hid hpb; have HKEY := Lib.hid hkey; clear hB hse hpb hkey)
  have HLX : Hid (LP.length = X.length) := Lib.hid (by rw [← HKEY.out, List.length_map])
  have hlx : LP.length ≤ 1000000 := by rw [HLX.out]; exact HNL.out
  have hmk := made_runSu LP.length hlx w4
  have HA := Lib.hid ((Below.refl w4.heap.size w4).alloc (Nat.le_refl _) (.cells (madeCells (Array.replicate 32 (Value.int .u8 0)) (LP.length * 32)) 31))
  have HROW : Hid (OwnU (w4.alloc (.cells (madeCells (Array.replicate 32 (Value.int .u8 0)) (LP.length * 32)) 31)) w4.heap.size 31 (.slice (some ⟨w4.heap.size, 0, none⟩) 0 LP.length) []) := Lib.hid (World.ownsRow_made w4 _ LP.length (Nat.le_refl _) (by unfold maxLen; omega) (size_madeCells _ _))
  clear HC
  go_upto_region 4 with fail
  clear hmk
  generalize w4.alloc (.cells (madeCells (Array.replicate 32 (Value.int .u8 0)) (LP.length * 32)) 31) = w6 at *
  go_loopw [4, 14] (fun v vi wr => ∃ j : Nat, j ≤ LP.length ∧ vi = .int .i64 j ∧ OwnU wr w4.heap.size 31 v ((LP.take j).map (·.1)) ∧ Below w4.heap.size w4 wr) (fun _ vi _ => LP.length - (intOf vi).toNat)
  case atStart => exact ⟨0, by omega, rfl, HROW.out, HA.out⟩
  case round =>
    clear HROW HA
    rename_i wr
    obtain ⟨j, hj, rfl, hrow, hB⟩ := hrel
    have HROW := Lib.hid hrow
    have HB := Lib.hid hB
    clear hrow hB
    by_cases hlt : j < LP.length
    · obtain ⟨ad, rfl, hab, hcell⟩ := Sees.pc (HSE.out.keep HB.out) hlt
      obtain ⟨p, hp⟩ : ∃ p, p = LP[j] := ⟨_, rfl⟩
      rw [← hp] at hcell
      have hone := (HPB.out p (by rw [hp]; exact List.getElem_mem hlt)).one
      have HCELL := Lib.hid hcell
      have HONE := Lib.hid hone
      have HXJ : Hid ((LP.take (j + 1)).map (·.1) = (LP.take j).map (·.1) ++ [p.1]) := Lib.hid (by rw [List.take_add_one, List.getElem?_eq_getElem hlt, ← hp]; simp)
      clear hcell hone hab hp
      have hjj : (j : Int) < (LP.length : Int) := by omega
      have hll : j < 1000000 := by omega
      have HLEN : Hid (((LP.take j).map (·.1)).length + 1 ≤ 4000000) := Lib.hid (by rw [List.length_map, List.length_take]; omega)
      go_upto_region 5 with fail
      refine wp_region_lit ?_
      try simp only [Act.put, List.setIfInBounds_toArray, List.set_cons_zero, List.set_cons_succ]
      refine lp_pure (v := ?_) (by kernel_rfl) ?_ ?_
      rotate_left
      · go_simp; try with_reducible rfl
      try simp only [Act.put, List.setIfInBounds_toArray, List.set_cons_zero, List.set_cons_succ]
      refine lp_pure (by kernel_rfl) (load_pc 42 87 elPc (.tmp 16) rfl (ad.add (j * 33)) rfl p (HCELL.out _ (Below.refl _ _))) ?_
      try simp only [Act.put, List.setIfInBounds_toArray, List.set_cons_zero, List.set_cons_succ]
      refine wp_copy_pc rfl rfl rfl (.tmp 6) (.tmp 17) rfl p HONE.out rfl rfl ?_
      intro w7 h1 h2
      have HAS := Lib.hid h1
      have HB7 := Lib.hid (HB.out.trans (h2.mono HB.out.size))
      have HB77 := Lib.hid h2
      clear h1 h2
      try simp only [Act.put, List.setIfInBounds_toArray, List.set_cons_zero, List.set_cons_succ]
      refine wpList_nil ?_
      have HG : Hid (w4.heap.size ≤ wr.heap.size ∧ wr.heap.size < w7.heap.size) := Lib.hid ⟨HB.out.size, HAS.out.lt⟩
      have HROW7 := Lib.hid (HROW.out.keep HB77.out)
      generalize wr.heap.size = g at *
      go_upto_region 6 with fail
      refine wp_region_lit ?_
      try simp only [Act.put, List.setIfInBounds_toArray, List.set_cons_zero, List.set_cons_succ]
      refine lp_pure (v := ?_) (by kernel_rfl) ?_ ?_
      rotate_left
      · go_simp; try with_reducible rfl
      try simp only [Act.put, List.setIfInBounds_toArray, List.set_cons_zero, List.set_cons_succ]
      refine lp_pure (v := ?_) (by kernel_rfl) ?_ ?_
      rotate_left
      · go_simp; try with_reducible rfl
      try simp only [Act.put, List.setIfInBounds_toArray, List.set_cons_zero, List.set_cons_succ]
      refine lp_pure (by kernel_rfl) (load_su 31 (.tmp 19) rfl ⟨g, 0, none⟩ rfl elSum.2.1 szSum p.1 (fun j u hu => by rw [add_lit', Nat.zero_add]; exact HAS.out.cellv (encP_su hu))) ?_
      try simp only [Act.put, List.setIfInBounds_toArray, List.set_cons_zero, List.set_cons_succ]
      refine wpList_one_su rfl 32 31 elSum (.tmp 20) rfl p.1 rfl ?_
      try simp only [Act.put, List.setIfInBounds_toArray, List.set_cons_zero, List.set_cons_succ]
      refine wpList_append_su rfl 32 31 elSum (.tmp 18) (.tmp 21) rfl w4.heap.size _ ((LP.take j).map (·.1)) rfl (HROW7.out.keep ((Below.refl _ _).alloc (Nat.le_refl _) _)) (some ⟨w7.heap.size, 0, none⟩) [p.1] 1 1 (w7.heap.size + 1) rfl rfl (fun h => by cases h) (Ss.one (Has.made' _ _ _ _ rfl) (by omega)) HLEN.out (by have := HG.out; simp; omega) ?_
      intro v8 w8 h1 h2
      have HROW2 := Lib.hid h1
      have HB8 := Lib.hid h2
      clear h1 h2
      try simp only [Act.put, List.setIfInBounds_toArray, List.set_cons_zero, List.set_cons_succ]
      refine lp_pure (v := ?_) (by kernel_rfl) ?_ ?_
      rotate_left
      · go_simp; try with_reducible rfl
      try simp only [Act.put, List.setIfInBounds_toArray, List.set_cons_zero, List.set_cons_succ]
      refine wpList_nil ?_
      go_wp2_with fail
      go_roundw
      case rel =>
        refine ⟨j + 1, by omega, by go_num, ?_, HB7.out.trans (((Below.refl _ _).alloc (by have := HG.out; omega) _).trans HB8.out)⟩
        rw [HXJ.out]; exact HROW2.out
      case measure => simp [intOf]; omega
    · have hjl : j = LP.length := by omega
      subst hjl
      have k3 : ¬ ((LP.length : Int) < (LP.length : Int)) := by omega
      have HPV : Hid (OwnU wr w4.heap.size 31 _ (namesU b)) := Lib.hid (by
        have e : (LP.take LP.length).map (·.1) = namesU b := by rw [List.take_length, HNA.out, ← HKEY.out, List.map_map]; rfl
        rw [← e]; exact HROW.out)
      clear hlt
      go_wp2_with fail
      go_ret
      exact ⟨⟨_, rfl, HPV.out.less HB4.out.size⟩, HB4.out.trans (HB.out.mono HB4.out.size)⟩
end Go.Proofs.YtmjonlffhhehjaaGreatDoor
/- Plain laws: numbers in bytes, seven bits each: what is written is read, cut short it is told, and a number has one writing alone. No condition. -/
namespace Go.Proofs.YtmjonlffhhehjaaGreatDoor
def by8 (n : Nat) : BitVec 8 := BitVec.ofNat 8 n
theorem by8_toNat (n : Nat) (h : n < 256) : (by8 n).toNat = n := by unfold by8; simp; omega
theorem by8_eq (x : BitVec 8) : by8 x.toNat = x := by unfold by8; simp
theorem by8_of (x : BitVec 8) (n : Nat) (h : x.toNat = n) : x = by8 n := by rw [← h, by8_eq]
/-- A number in bytes. -/
def digs (v : Nat) : List (BitVec 8) := if v < 128 then [by8 v] else by8 (v % 128 + 128) :: digs (v / 128)
termination_by v
decreasing_by omega
theorem digs_lt (v : Nat) (h : v < 128) : digs v = [by8 v] := by rw [digs, if_pos h]
theorem digs_ge (v : Nat) (h : ¬ v < 128) : digs v = by8 (v % 128 + 128) :: digs (v / 128) := by rw [digs, if_neg h]
theorem digs_pos (v : Nat) : 0 < (digs v).length := by
  by_cases h : v < 128
  · rw [digs_lt v h]; simp
  · rw [digs_ge v h]; simp
theorem digs_len (k : Nat) : ∀ v, v < 128 ^ (k + 1) → (digs v).length ≤ k + 1 := by
  induction k with
  | zero => intro v h; rw [digs_lt v (by simpa using h)]; simp
  | succ k ih =>
    intro v h
    by_cases h1 : v < 128
    · rw [digs_lt v h1]; simp
    · rw [digs_ge v h1]
      have := ih (v / 128) (by rw [Nat.pow_succ] at h; omega)
      simp; omega
theorem digs_len10 (v : Nat) (h : v < 18446744073709551616) : (digs v).length ≤ 10 := digs_len 9 v (by have : (128:Nat) ^ 10 = 1180591620717411303424 := by decide +kernel
                                                                                                       omega)
/-- What Get answers, from byte i on, a having been read: the number, how many bytes, the error. -/
def getA : Nat → Nat → List (BitVec 8) → Nat × Nat × Nat
  | _, _, [] => (0, 0, 3)
  | i, a, x :: r =>
    if i = 9 ∧ 1 < x.toNat then (0, 0, 2)
    else if 128 ≤ x.toNat then getA (i + 1) (a + x.toNat % 128 * 128 ^ i) r
    else if x.toNat = 0 ∧ 0 < i then (0, 0, 2)
    else (a + x.toNat % 128 * 128 ^ i, i + 1, 0)
def getL (b : List (BitVec 8)) : Nat × Nat × Nat := getA 0 0 b
theorem getA_nil (i a : Nat) : getA i a [] = (0, 0, 3) := rfl
theorem getA_bad (i a : Nat) (x : BitVec 8) (r : List (BitVec 8)) (h : i = 9 ∧ 1 < x.toNat) : getA i a (x :: r) = (0, 0, 2) := by rw [getA, if_pos h]
theorem getA_more (i a : Nat) (x : BitVec 8) (r : List (BitVec 8)) (h : ¬ (i = 9 ∧ 1 < x.toNat)) (h2 : 128 ≤ x.toNat) : getA i a (x :: r) = getA (i + 1) (a + x.toNat % 128 * 128 ^ i) r := by rw [getA, if_neg h, if_pos h2]
theorem getA_long (i a : Nat) (x : BitVec 8) (r : List (BitVec 8)) (h3 : x.toNat = 0 ∧ 0 < i) : getA i a (x :: r) = (0, 0, 2) := by rw [getA, if_neg (by omega), if_neg (by omega), if_pos h3]
theorem getA_end (i a : Nat) (x : BitVec 8) (r : List (BitVec 8)) (h : ¬ (i = 9 ∧ 1 < x.toNat)) (h2 : ¬ 128 ≤ x.toNat) (h3 : ¬ (x.toNat = 0 ∧ 0 < i)) : getA i a (x :: r) = (a + x.toNat * 128 ^ i, i + 1, 0) := by
  rw [getA, if_neg h, if_neg h2, if_neg h3, Nat.mod_eq_of_lt (by omega)]
/-- What is written is read. -/
theorem getA_digs : ∀ (k v i a : Nat) (r : List (BitVec 8)), i + k = 9 → v < 2 * 128 ^ k → (0 < i → 0 < v) →
    getA i a (digs v ++ r) = (a + v * 128 ^ i, i + (digs v).length, 0)
  | 0, v, i, a, r, hi, hv, hp => by
    rw [digs_lt v (by omega), List.singleton_append, getA_end _ _ _ _ (by rw [by8_toNat _ (by omega)]; omega) (by rw [by8_toNat _ (by omega)]; omega) (by rw [by8_toNat _ (by omega)]; omega), by8_toNat _ (by omega)]
    rfl
  | k + 1, v, i, a, r, hi, hv, hp => by
    by_cases h : v < 128
    · rw [digs_lt v h, List.singleton_append, getA_end _ _ _ _ (by rw [by8_toNat _ (by omega)]; omega) (by rw [by8_toNat _ (by omega)]; omega) (by rw [by8_toNat _ (by omega)]; omega), by8_toNat _ (by omega)]
      rfl
    · have hm : v % 128 < 128 := Nat.mod_lt _ (by omega)
      rw [digs_ge v h, List.cons_append, getA_more _ _ _ _ (by omega) (by rw [by8_toNat _ (by omega)]; omega),
        getA_digs k (v / 128) (i + 1) _ r (by omega) (by rw [Nat.pow_succ] at hv; omega) (fun _ => by omega), by8_toNat _ (by omega)]
      have e1 : (v % 128 + 128) % 128 = v % 128 := by omega
      have e2 : v % 128 * 128 ^ i + v / 128 * (128 ^ i * 128) = v * 128 ^ i := by
        have e3 : v % 128 + v / 128 * 128 = v := by omega
        rw [Nat.mul_comm (128 ^ i) 128, ← Nat.mul_assoc, ← Nat.add_mul, e3]
      rw [e1, Nat.pow_succ, Nat.add_assoc, e2, List.length_cons, Nat.add_assoc, Nat.add_comm 1]
theorem getL_digs (v : Nat) (r : List (BitVec 8)) (h : v < 18446744073709551616) : getL (digs v ++ r) = (v, (digs v).length, 0) := by
  have := getA_digs 9 v 0 0 r (by omega) (by have : (128:Nat) ^ 9 = 9223372036854775808 := by decide +kernel
                                             omega) (fun h => by omega)
  simpa [getL] using this
/-- Cut short it is told. -/
theorem getA_cut : ∀ (k v i a j : Nat), i + k = 9 → v < 2 * 128 ^ k → j < (digs v).length → getA i a ((digs v).take j) = (0, 0, 3)
  | k, v, i, a, 0, hi, hv, hj => by rw [List.take_zero]; rfl
  | 0, v, i, a, j + 1, hi, hv, hj => by rw [digs_lt v (by omega)] at hj; simp at hj
  | k + 1, v, i, a, j + 1, hi, hv, hj => by
    by_cases h : v < 128
    · rw [digs_lt v h] at hj; simp at hj
    · have hm : v % 128 < 128 := Nat.mod_lt _ (by omega)
      rw [digs_ge v h] at hj ⊢
      rw [List.take_succ_cons, getA_more _ _ _ _ (by omega) (by rw [by8_toNat _ (by omega)]; omega)]
      exact getA_cut k (v / 128) (i + 1) _ j (by omega) (by rw [Nat.pow_succ] at hv; omega) (by simpa using hj)
theorem getL_cut (v j : Nat) (h : v < 18446744073709551616) (hj : j < (digs v).length) : getL ((digs v).take j) = (0, 0, 3) :=
  getA_cut 9 v 0 0 j (by omega) (by have : (128:Nat) ^ 9 = 9223372036854775808 := by decide +kernel
                                    omega) hj
/-- A number has one writing alone. -/
theorem getA_back : ∀ (b : List (BitVec 8)) (i a v n : Nat), i ≤ 9 → getA i a b = (v, n, 0) →
    ∃ u, v = a + u * 128 ^ i ∧ i < n ∧ n - i ≤ b.length ∧ digs u = b.take (n - i) ∧ (0 < i → 0 < u) ∧ u < 2 * 128 ^ (9 - i)
  | [], i, a, v, n, _, h => by rw [getA_nil] at h; simp at h
  | x :: r, i, a, v, n, hi, h => by
    have hx := x.isLt
    by_cases h1 : i = 9 ∧ 1 < x.toNat
    · rw [getA_bad _ _ _ _ h1] at h; simp at h
    by_cases h2 : 128 ≤ x.toNat
    · rw [getA_more _ _ _ _ h1 h2] at h
      obtain ⟨u, hv, hn, hl, hd, hp, hu⟩ := getA_back r (i + 1) _ v n (by omega) h
      have hp := hp (by omega)
      have hm : (x.toNat % 128 + u * 128) % 128 = x.toNat - 128 := by omega
      have hq : (x.toNat % 128 + u * 128) / 128 = u := by omega
      refine ⟨x.toNat % 128 + u * 128, ?_, by omega, by simp; omega, ?_, fun _ => by omega, ?_⟩
      · rw [hv, Nat.pow_succ, Nat.add_mul, Nat.add_assoc, Nat.mul_assoc u, Nat.mul_comm 128 (128 ^ i)]
      · rw [digs_ge _ (by omega), hm, hq, hd, show x.toNat - 128 + 128 = x.toNat by omega, by8_eq, show n - i = n - (i + 1) + 1 by omega, List.take_succ_cons]
      · rw [show 9 - i = 9 - (i + 1) + 1 by omega, Nat.pow_succ]
        omega
    by_cases h3 : x.toNat = 0 ∧ 0 < i
    · rw [getA_long _ _ _ _ h3] at h; simp at h
    · rw [getA_end _ _ _ _ h1 h2 h3] at h
      simp only [Prod.mk.injEq, and_true] at h
      refine ⟨x.toNat, h.1.symm, by omega, by simp; omega, ?_, fun _ => by omega, ?_⟩
      · rw [digs_lt _ (by omega), by8_eq, show n - i = 1 by omega]; rfl
      · by_cases h9 : i = 9
        · subst h9; simp; omega
        · have : 128 ^ 1 ≤ 128 ^ (9 - i) := Nat.pow_le_pow_right (by omega) (by omega)
          omega
theorem getL_back (b : List (BitVec 8)) (v n : Nat) (h : getL b = (v, n, 0)) : 0 < n ∧ n ≤ b.length ∧ digs v = b.take n ∧ v < 18446744073709551616 := by
  obtain ⟨u, hv, hn, hl, hd, _, hu⟩ := getA_back b 0 0 v n (by omega) h
  have h9 : (128:Nat) ^ (9 - 0) = 9223372036854775808 := by decide +kernel
  simp at hv hl hd
  subst hv
  exact ⟨hn, hl, hd, by omega⟩
/-- What it answers is small. -/
theorem getA_err (b : List (BitVec 8)) : ∀ (i a : Nat), (getA i a b).2.2 = 0 ∨ (getA i a b).2.2 = 2 ∧ (getA i a b).1 = 0 ∧ (getA i a b).2.1 = 0 ∨ (getA i a b).2.2 = 3 ∧ (getA i a b).1 = 0 ∧ (getA i a b).2.1 = 0 := by
  induction b with
  | nil => intro i a; exact .inr (.inr ⟨rfl, rfl, rfl⟩)
  | cons x r ih =>
    intro i a
    rw [getA]
    split
    · exact .inr (.inl ⟨rfl, rfl, rfl⟩)
    · split
      · exact ih _ _
      · split
        · exact .inr (.inl ⟨rfl, rfl, rfl⟩)
        · exact .inl rfl
end Go.Proofs.YtmjonlffhhehjaaGreatDoor
/- Rows of a recipe's lines in memory: thirty-five cells a line: its path, whether it is a directory, its sum, its names' value. Condition: none. -/
namespace Go.Proofs.YtmjonlffhhehjaaGreatDoor
open Go.RowKit
/-- A line: its path, whether it is a directory, its sum, its names' value, its names. -/
abbrev Ln := ByteArray × Bool × Su × Value × List Su
def encL (p : Ln) : List Value := .string p.1 :: .bool p.2.1 :: (encU p.2.2.1 ++ [p.2.2.2.1])
theorem encL_len (p : Ln) : (encL p).length = 35 := by unfold encL; rw [List.length_cons, List.length_cons, List.length_append, encU_len]; rfl
def rowL (L : List Ln) : List Value := L.flatMap encL
theorem rowL_len : ∀ L : List Ln, (rowL L).length = L.length * 35
  | [] => rfl
  | x :: L => by
    have h : rowL (x :: L) = encL x ++ rowL L := rfl
    rw [h, List.length_append, encL_len, rowL_len L, List.length_cons]; omega
theorem rowL_app (A B : List Ln) : rowL (A ++ B) = rowL A ++ rowL B := List.flatMap_append
theorem rowL_one (x : Ln) : rowL [x] = encL x := by unfold rowL; simp
theorem rowL_drop (L : List Ln) (k : Nat) : (rowL L).drop (k * 35) = rowL (L.drop k) := by
  by_cases h : k ≤ L.length
  · conv => lhs; rw [← List.take_append_drop k L, rowL_app]
    rw [List.drop_append_of_le_length (by rw [rowL_len, List.length_take]; omega), List.drop_of_length_le (by rw [rowL_len, List.length_take]; omega), List.nil_append]
  · rw [List.drop_of_length_le (by rw [rowL_len]; omega), List.drop_of_length_le (by omega)]; rfl
theorem rowL_take (L : List Ln) (k : Nat) : (rowL L).take (k * 35) = rowL (L.take k) := by
  by_cases h : k ≤ L.length
  · conv => lhs; rw [← List.take_append_drop k L, rowL_app]
    rw [List.take_append_of_le_length (by rw [rowL_len, List.length_take]; omega), List.take_of_length_le (by rw [rowL_len, List.length_take]; omega)]
  · rw [List.take_of_length_le (by rw [rowL_len]; omega), List.take_of_length_le (by omega)]
theorem rowL_get (L : List Ln) (i : Nat) (h : i < L.length) (j : Nat) (hj : j < 35) : (rowL L)[i * 35 + j]? = (encL L[i])[j]? := by
  have e : rowL L = rowL (L.take i) ++ (encL L[i] ++ rowL (L.drop (i + 1))) := by
    conv => lhs; rw [← List.take_append_drop i L, List.drop_eq_getElem_cons h, rowL_app]
    rfl
  have hl : (rowL (L.take i)).length = i * 35 := by rw [rowL_len, List.length_take]; omega
  rw [e, List.getElem?_append_right (by omega), hl, List.getElem?_append_left (by rw [encL_len]; omega)]
  congr 1; omega
/-- The pieces' bytes are there. -/
def Lnb (w : World) (L : List Ln) : Prop := ∀ p ∈ L, Us w p.2.2.2.1 p.2.2.2.2
theorem Lnb.keep {w w' : World} {L : List Ln} (h : Lnb w L) (hb : Below w.heap.size w w') : Lnb w' L := fun p hp => (h p hp).keep hb
theorem Us.one {w : World} {v : Value} {x : List Su} (h : Us w v x) : v.oneCell' = true := by
  obtain ⟨q, c, rfl, _⟩ := h; rfl
theorem rowL_ones {w : World} {L : List Ln} (h : Lnb w L) : ∀ v ∈ rowL L, v.oneCell' = true := fun v hv => by
  obtain ⟨x, hx, hx2⟩ := List.mem_flatMap.1 hv
  rcases List.mem_cons.1 hx2 with rfl | hx2
  · rfl
  rcases List.mem_cons.1 hx2 with rfl | hx2
  · rfl
  rcases List.mem_append.1 hx2 with h1 | h1
  · exact encU_one _ v h1
  · rw [List.mem_singleton.1 h1]; exact (h x hx).one
/-- A type of slices of pieces, the type of its pieces. -/
def ElL (T E : TypeId) : Prop := Tryz.prog.underlying T = some (.slice E) ∧ (∃ fs, Tryz.prog.underlying E = some (.struct fs)) ∧ (Tryz.prog.info? E).map (fun i => (i.zero, i.size, i.bytes)) = some (some (.agg (#[.string ⟨#[]⟩, .bool false] ++ Array.replicate 32 (.int .u8 0) ++ #[.slice none 0 0])), 35, 80)
/-- The value reads as these pieces. -/
def LnV (w : World) (v : Value) (L : List Ln) : Prop := ∃ q c, v = .slice q L.length c ∧ L.length ≤ c ∧ (q = none → c = 0) ∧ Sees w w.heap.size q (rowL L)
theorem LnV.keep {w w' : World} {v : Value} {L : List Ln} (h : LnV w v L) (hb : Below w.heap.size w w') : LnV w' v L := by
  obtain ⟨q, c, h1, h2, h3, h4⟩ := h
  exact ⟨q, c, h1, h2, h3, (h4.keep hb).more hb.size⟩
theorem LnV.nil (w : World) : LnV w (.slice none 0 0) [] := ⟨none, 0, rfl, Nat.le_refl _, fun _ => rfl, Sees.nil _ _ _⟩
/-- One of them: its thirty-three cells. -/
theorem Sees.ln {w : World} {b : Nat} {q : Option Addr} {L : List Ln} (h : Sees w b q (rowL L)) {i : Nat} (hi : i < L.length) :
    ∃ a : Addr, q = some a ∧ a.block < b ∧ ∀ w', Below b w w' → ∀ j u, (encL L[i])[j]? = some u → w'.cell? ((a.add (i * 35)).add j) = some u := by
  obtain ⟨a, rfl, hb, hc⟩ := h.get (by rw [rowL_len]; omega)
  refine ⟨a, rfl, hb, fun w' hw j u hu => ?_⟩
  have hj : j < 35 := by have := (List.getElem?_eq_some_iff.1 hu).1; rwa [encL_len] at this
  rw [add_add, hw.cell (by rw [add_block]; exact hb)]
  exact hc _ u (by rw [rowL_get L i hi j hj]; exact hu)
theorem encL_0 (p : Ln) : (encL p)[0]? = some (.string p.1) := rfl
theorem encL_1 (p : Ln) : (encL p)[1]? = some (.bool p.2.1) := rfl
theorem encL_su {p : Ln} {j : Nat} {u : Value} (h : (encU p.2.2.1)[j]? = some u) : (encL p)[j + 2]? = some u := by
  have hj := (List.getElem?_eq_some_iff.1 h).1
  unfold encL; rw [List.getElem?_cons_succ, List.getElem?_cons_succ, List.getElem?_append_left hj]; exact h
theorem encL_n (p : Ln) : (encL p)[34]? = some p.2.2.2.1 := by
  unfold encL; rw [show 34 = 32 + 1 + 1 from rfl, List.getElem?_cons_succ, List.getElem?_cons_succ, List.getElem?_append_right (by rw [encU_len]; omega), encU_len]; rfl
/-- A row of the call's own. -/
def OwnL (w : World) (base : Nat) (E : TypeId) (v : Value) (L : List Ln) : Prop := w.ownsRow base E 35 v L.length (rowL L)
theorem OwnL.nil (w : World) (base : Nat) (E : TypeId) : OwnL w base E (.slice none 0 0) [] := World.ownsRow_nil w base E 35
theorem OwnL.empty (w : World) (base : Nat) (E : TypeId) (hb : base ≤ w.heap.size) : OwnL (w.alloc (.cells #[] E)) base E (.slice (some ⟨w.heap.size, 0, none⟩) 0 0) [] :=
  World.ownsRow_made w #[] 0 hb (Nat.zero_le _) (by simp)
theorem OwnL.base {w : World} {base : Nat} {E : TypeId} {v : Value} {L : List Ln} (h : OwnL w base E v L) : ∀ j, Value.ownBlock v = some j → base ≤ j := fun j hj => (World.ownsRow.lt h j hj).1
theorem OwnL.keep {w w' : World} {base : Nat} {E : TypeId} {v : Value} {L : List Ln} (h : OwnL w base E v L) (hb : Below w.heap.size w w') : OwnL w' base E v L := by
  rcases h.2 with ⟨rfl, h0⟩ | ⟨g', cap, cur, rfl, hb', hg', h1, h2, h3, h4⟩
  · exact ⟨h.1, .inl ⟨rfl, h0⟩⟩
  · exact ⟨h.1, .inr ⟨g', cap, cur, rfl, hb', (hb.block g' (Array.getElem?_eq_some_iff.1 hg').1).trans hg', h1, h2, h3, h4⟩⟩
theorem OwnL.less {w : World} {b base : Nat} {E : TypeId} {v : Value} {L : List Ln} (h : OwnL w base E v L) (hb : b ≤ base) : OwnL w b E v L := by
  rcases h.2 with ⟨rfl, h0⟩ | ⟨g', cap, cur, rfl, hb', r⟩
  · exact ⟨h.1, .inl ⟨rfl, h0⟩⟩
  · exact ⟨h.1, .inr ⟨g', cap, cur, rfl, by omega, r⟩⟩
theorem OwnL.ln {w : World} {base : Nat} {E : TypeId} {v : Value} {L : List Ln} (h : OwnL w base E v L) : LnV w v L := by
  rcases h.2 with ⟨rfl, h0⟩ | ⟨g, cap, cur, rfl, hb, hg, h1, _⟩
  · have : L = [] := List.eq_nil_of_length_eq_zero h0
    subst this
    exact LnV.nil w
  · exact ⟨_, cap, rfl, h1, fun e => (by cases e), fun _ => ⟨_, rfl, (Array.getElem?_eq_some_iff.1 hg).1, World.ownsRow.cells h (g := g) rfl⟩⟩
section
variable {P : Program}
/-- A whole piece loaded. -/
theorem load_ln {o : Oper} {ev : Operand → Value} {w : World} (T E : TypeId) (hT : ElL T E) (x : Operand) (ho : o.op = .load E x) (p : Addr) (hx : ev x = .pointer (some p))
    (s : Ln) (hc : ∀ j u, (encL s)[j]? = some u → w.cell? (p.add j) = some u) : (execOp ev o).run Tryz.prog w = .ok (.value (.agg (encL s).toArray)) w := by
  have hl := run_loadCells_list (P := Tryz.prog) w p (encL s) hc
  rw [encL_len] at hl
  obtain ⟨i0, hi, hz0, hz1, hz2⟩ := info_parts hT.2.2
  obtain ⟨fs, hu⟩ := hT.2.1
  have hrun : (loadVar E p).run Tryz.prog w = .ok (.agg (encL s).toArray) w := by
    have hagg : (isAgg E).run Tryz.prog w = .ok true w := by
      unfold isAgg
      rw [Sem.run_bind, run_underlying hu w]
      simp
    simp only [loadVar, sizeOf, typeInfo, Sem.run_bind, hagg, Result.andThen_ok, if_true]
    simp [hi, hz1, hl]
  unfold execOp
  simp only [ho, hx, Instr.loadAt, Instr.sureAddr, Sem.run_bind, Sem.run_pure, Result.andThen_ok, hrun]
end
section
variable {ops : Array Oper} {rest : List Oper} {o : Oper} {a : Act} {w : World} {Q : Exit → Act → World → Prop} {K : Act → World → Prop}
/-- A row of one piece. -/
theorem wp_one_ln (T E : TypeId) (hT : ElL T E) (x : Operand) (ho : o.op = .buildSlice T 1 #[(0, x)]) (s : Ln) (hx : a.eval x = .agg (encL s).toArray)
    (h : K (a.put o.dst (.slice (some ⟨w.heap.size, 0, none⟩) 1 1)) (w.alloc (.cells (encL s).toArray E))) : o.wp Tryz.prog a w K Q := by
  obtain ⟨i0, hi, hz0, hz1, hz2⟩ := info_parts hT.2.2
  refine wp_buildSlice T E 1 _ ho (encL s).toArray i0 _ hT.1 hi hz0 (by rw [hz1]; omega) (by rw [hz1]; omega) ?_ h
  rw [hz1]
  simp only [List.map_toArray, List.map_cons, List.map_nil, hx]
  exact fill_whole 35 (by decide) (encL s) (encL_len s) _ (by simp)
theorem wpList_one_ln (hgd : o.guard = none) (T E : TypeId) (hT : ElL T E) (x : Operand) (ho : o.op = .buildSlice T 1 #[(0, x)]) (s : Ln) (hx : a.eval x = .agg (encL s).toArray)
    (h : wpList Tryz.prog ops Q rest (a.put o.dst (.slice (some ⟨w.heap.size, 0, none⟩) 1 1)) (w.alloc (.cells (encL s).toArray E))) : wpList Tryz.prog ops Q (o :: rest) a w :=
  wpList_plain hgd fun _ hK => wp_one_ln T E hT x ho s hx (hK _ _ h)
/-- Pieces put behind a row of the call's own. -/
theorem wp_append_ln (T E : TypeId) (hT : ElL T E) (s x : Operand) (ho : o.op = .call { callee := .builtin .append, args := #[s, x], argTypes := #[T, T] })
    (base : Nat) (v : Value) (L : List Ln) (hs : a.eval s = v) (hown : OwnL w base E v L)
    (q : Option Addr) (M : List Ln) (m cap b : Nat) (hm : M.length = m) (hx : a.eval x = .slice q m cap) (hq : q = none → cap = 0) (hl : Sees w b q (rowL M)) (h1 : ∀ u ∈ rowL M, u.oneCell' = true)
    (hn : L.length + m ≤ 2000000) (hbase : base ≤ w.heap.size)
    (h : ∀ v' w', OwnL w' base E v' (L ++ M) → w.grownBy w' v.ownBlock → K (a.put o.dst v') w') : o.wp Tryz.prog a w K Q := by
  subst hm
  obtain ⟨i0, hi, hz0, hz1, hz2⟩ := info_parts hT.2.2
  have fin : ∀ v' w', w'.ownsRow base E 35 v' (L.length + M.length) (rowL L ++ rowL M) → OwnL w' base E v' (L ++ M) := fun v' w' h1 => by
    unfold OwnL; rw [List.length_append, rowL_app]; exact h1
  have hbytes : (L.length + M.length) * 80 ≤ 140737488355328 := Nat.le_trans (Nat.mul_le_mul hn (Nat.le_refl 80)) (by decide)
  rcases q with _ | ad
  · have hl0 : M = [] := by
      rcases M with _ | ⟨y, M⟩
      · rfl
      · obtain ⟨a, h1, _⟩ := hl.get (by rw [rowL_len, List.length_cons]; omega)
        cases h1
    subst hl0
    obtain rfl := hq rfl
    have hrun := run_append_owned_none (P := Tryz.prog) (w := w) base T o.type E i0 35 hT.1 hi v L.length (rowL L) hown
    have hx' : a.eval x = .slice none 0 0 := hx
    unfold Oper.wp
    simp [execOp, ho, resolve, invoke, builtin, hs, hx', hrun, Result.andThen]
    exact h v w (by simpa using hown) ⟨rfl, rfl, rfl, Nat.le_refl _, fun _ _ _ => rfl⟩
  · by_cases hl0 : M = []
    · subst hl0
      refine wp_append_own w s x T ho base E i0 _ 35 80 hT.1 hi hz0 hz1 hz2 rfl (by decide) v L.length (rowL L) hs hown ad 0 cap [] hx rfl (fun j u hj => by simp at hj) (fun u hu => by cases hu) (by unfold maxLen; simp at hn; omega) hbytes hbase (fun v' w' h1 h2 _ => ?_)
      exact h v' w' (fin v' w' (by simpa [rowL] using h1)) h2
    · refine wp_append_own w s x T ho base E i0 _ 35 80 hT.1 hi hz0 hz1 hz2 rfl (by decide) v L.length (rowL L) hs hown ad M.length cap (rowL M) hx (rowL_len M) (fun j u hj => ?_) h1 (by unfold maxLen; omega) hbytes hbase (fun v' w' h1 h2 _ => ?_)
      · obtain ⟨a', h1, _, h3⟩ := hl.get (by have := (List.getElem?_eq_some_iff.1 hj).1; omega)
        cases h1
        exact h3 j u hj
      · exact h v' w' (fin v' w' h1) h2
theorem wpList_append_ln (hgd : o.guard = none) (T E : TypeId) (hT : ElL T E) (s x : Operand) (ho : o.op = .call { callee := .builtin .append, args := #[s, x], argTypes := #[T, T] })
    (base : Nat) (v : Value) (L : List Ln) (hs : a.eval s = v) (hown : OwnL w base E v L)
    (q : Option Addr) (M : List Ln) (m cap b : Nat) (hm : M.length = m) (hx : a.eval x = .slice q m cap) (hq : q = none → cap = 0) (hl : Sees w b q (rowL M)) (h1 : ∀ u ∈ rowL M, u.oneCell' = true)
    (hn : L.length + m ≤ 2000000) (hbase : base ≤ w.heap.size)
    (h : ∀ v' w', OwnL w' base E v' (L ++ M) → Below base w w' → wpList Tryz.prog ops Q rest (a.put o.dst v') w') : wpList Tryz.prog ops Q (o :: rest) a w :=
  wpList_plain hgd fun _ hK => wp_append_ln T E hT s x ho base v L hs hown q M m cap b hm hx hq hl h1 hn hbase fun v' w' h1 h2 => hK _ _ (h v' w' h1 ((Below.refl base w).grown h2 hbase (fun k hk => hown.base k hk)))
end
theorem Has.ln {w : World} {g : Nat} {E : TypeId} {s : Ln} {b : Nat} (h : Has w g E (encL s)) (hb : g < b) : Sees w b (some ⟨g, 0, none⟩) (rowL [s]) := by
  rw [rowL_one]; exact Sees.of_has h hb
end Go.Proofs.YtmjonlffhhehjaaGreatDoor
/- Plain laws of recipes: lines, which may be, what is written of them; recipes that may be are told apart by their bytes. No condition. -/
namespace Go.Proofs.YtmjonlffhhehjaaGreatDoor
open Go.RowKit
/-- A line without where its names lie: its path, whether it is a directory, its sum, its names. -/
abbrev Lk := ByteArray × Bool × Su × List Su
def keyL (l : Ln) : Lk := (l.1, l.2.1, l.2.2.1, l.2.2.2.2)
def zSu : Su := ⟨List.replicate 32 0, rfl⟩
/-- An entry's line. -/
def lineP (e : Ent) : Lk := if e.2.1 = true then (e.1, true, zSu, []) else (e.1, false, shaU e.by, namesU e.by)
def okLn (k : Lk) : Bool := !insideL k.1.data.toList && (if k.2.1 = true then decide (k.2.2.2.length = 0) && decide (k.2.2.1 = zSu) else decide (k.2.2.2.length ≤ 2048))
/-- Its entry without bytes. -/
def entK (k : Lk) : Ent := (k.1, k.2.1, .slice none 0 0, [])
def goodK (R : List Lk) : Bool := decide (R.length ≤ 40) && (R.all okLn && goodP (R.map entK))
def txB (p : ByteArray) : List (BitVec 8) := p.data.toList.map UInt8.toBitVec
def flatS (L : List Su) : List (BitVec 8) := L.flatMap fun s => s.1
def putK (k : Lk) : List (BitVec 8) := digs k.1.size ++ (txB k.1 ++ (if k.2.1 = true then [1] else 0 :: (k.2.2.1.1 ++ (digs k.2.2.2.length ++ flatS k.2.2.2))))
def putR (R : List Lk) : List (BitVec 8) := if goodK R = true then R.flatMap putK else []
/-- An entry without its bytes. -/
def st1 (e : Ent) : Ent := (e.1, e.2.1, .slice none 0 0, [])
theorem st_at (p : Tx) : ∀ C : List Ent, atT (C.map st1) p = atT C p
  | [] => rfl
  | e :: C => by
    show (if e.pa = p then (0 : Int) else if atT (C.map st1) p < 0 then -1 else atT (C.map st1) p + 1) = _
    rw [st_at p C]; rfl
theorem st_dir (C : List Ent) (k : Nat) : dirT (C.map st1) k = dirT C k := by
  unfold dirT
  rw [List.getElem?_map]
  cases C[k]? <;> rfl
theorem st_room (C : List Ent) (p : Tx) : roomT (C.map st1) p = roomT C p := by unfold roomT; rw [st_at, st_dir]
theorem st_bytes : ∀ C : List Ent, bytesT (C.map st1) = 0
  | [] => rfl
  | e :: C => by
    have h := st_bytes C
    unfold bytesT at h ⊢
    rw [List.map_cons, List.map_cons, List.sum_cons, h]; rfl
theorem st_good {C : List Ent} (h : goodP C = true) : goodP (C.map st1) = true := by
  rw [goodP_iff] at h ⊢
  obtain ⟨h1, h2, h3, h4⟩ := h
  refine ⟨?_, ?_, ?_, ?_⟩
  · unfold fitsT at h1 ⊢
    rw [Bool.and_eq_true, decide_eq_true_iff] at h1
    rw [st_bytes, List.length_map]
    simp [h1.1]
  · exact List.pairwise_map.2 h2
  · intro e he
    obtain ⟨x, hx, rfl⟩ := List.mem_map.1 he
    have h5 := okEnt_path (h3 x hx)
    unfold okEnt
    show (!(x.2.1 && decide (0 < 0)) && (okPath x.pa && decide (0 ≤ 2048))) = true
    rw [h5]; simp
  · intro e he
    obtain ⟨x, hx, rfl⟩ := List.mem_map.1 he
    rw [st_room]
    exact h4 x hx
theorem lineP_ent (e : Ent) : entK (lineP e) = st1 e := by
  unfold lineP
  split
  · rename_i h; unfold entK st1; rw [h]
  · rename_i h; unfold entK st1; rw [Bool.not_eq_true] at h; rw [h]
theorem okEnt_len {e : Ent} (h : okEnt e = true) : e.by.length ≤ 2048 := by
  unfold okEnt at h
  rw [Bool.and_eq_true, Bool.and_eq_true, decide_eq_true_iff] at h
  exact h.2.2
theorem good_of_good {C : List Ent} (h : goodP C = true) : goodK ((cleanP C).map lineP) = true := by
  have hc : cleanP C = outT C := by unfold cleanP; rw [if_pos h]
  have hg := good_out h
  rw [hc]
  unfold goodK
  rw [Bool.and_eq_true, Bool.and_eq_true, decide_eq_true_iff, List.length_map, List.all_eq_true]
  refine ⟨?_, ?_, ?_⟩
  · have h1 := ((goodP_iff _).1 hg).1
    unfold fitsT at h1
    rw [Bool.and_eq_true, decide_eq_true_iff] at h1
    exact h1.1
  · intro k hk
    obtain ⟨e, he, rfl⟩ := List.mem_map.1 hk
    have h3 := ((goodP_iff _).1 hg).2.2.1 e he
    have hi : insideL e.pa = false := by
      have := (List.mem_filter.1 he).2
      simpa using this
    unfold okLn lineP
    split
    · show (!insideL e.pa && _) = true
      rw [hi]; rfl
    · show (!insideL e.pa && (if false = true then _ else decide ((namesU e.by).length ≤ 2048))) = true
      rw [hi]
      have h4 := namesU_length e.by
      have h5 := okEnt_len h3
      simp; omega
  · rw [List.map_map, show entK ∘ lineP = st1 from funext lineP_ent]
    exact st_good hg
theorem digs_apart {v u : Nat} (hv : v < 18446744073709551616) (hu : u < 18446744073709551616) {x y : List (BitVec 8)} (h : digs v ++ x = digs u ++ y) : v = u ∧ x = y := by
  have h1 := getL_digs v x hv
  rw [h, getL_digs u y hu] at h1
  have e : v = u := by have := congrArg Prod.fst h1; exact this.symm
  subst e
  exact ⟨rfl, List.append_cancel_left h⟩
theorem txB_len (p : ByteArray) : (txB p).length = p.size := by unfold txB; rw [List.length_map]; rfl
theorem txB_apart {p q : ByteArray} (h : txB p = txB q) : p = q := by
  unfold txB at h
  have h1 : p.data.toList = q.data.toList := List.map_inj_right (fun a b hab => UInt8.eq_of_toBitVec_eq hab) |>.1 h
  cases p; cases q
  congr 1
  exact Array.toList_inj.1 h1
theorem flatS_apart : ∀ {L M : List Su} {x y : List (BitVec 8)}, L.length = M.length → flatS L ++ x = flatS M ++ y → L = M ∧ x = y
  | [], [], x, y, _, h => ⟨rfl, h⟩
  | [], _ :: _, _, _, h, _ => by simp at h
  | _ :: _, [], _, _, h, _ => by simp at h
  | a :: L, b :: M, x, y, hl, h => by
    have e : ∀ (s : Su) (N : List Su), flatS (s :: N) = s.1 ++ flatS N := fun _ _ => rfl
    rw [e, e, List.append_assoc, List.append_assoc] at h
    obtain ⟨h1, h2⟩ := List.append_inj h (by rw [a.2, b.2])
    obtain ⟨h3, h4⟩ := flatS_apart (by simpa using hl) h2
    exact ⟨by rw [Subtype.ext h1, h3], h4⟩
/-- A line that may be: its numbers fit; of a directory nothing is left out. -/
def SmL (k : Lk) : Prop := k.1.size < 18446744073709551616 ∧ k.2.2.2.length < 18446744073709551616 ∧ (k.2.1 = true → k.2.2.1 = zSu ∧ k.2.2.2 = [])
theorem putK_apart {k l : Lk} (hk : SmL k) (hl : SmL l) {x y : List (BitVec 8)} (h : putK k ++ x = putK l ++ y) : k = l ∧ x = y := by
  obtain ⟨p, d, s, N⟩ := k
  obtain ⟨q, e, t, M⟩ := l
  obtain ⟨k1, k2, k3⟩ := hk
  obtain ⟨l1, l2, l3⟩ := hl
  unfold putK at h
  simp only [List.append_assoc] at h
  obtain ⟨h1, h2⟩ := digs_apart k1 l1 h
  obtain ⟨h3, h4⟩ := List.append_inj h2 (by rw [txB_len, txB_len]; exact h1)
  obtain rfl := txB_apart h3
  cases d <;> cases e
  · rw [if_neg (by simp), if_neg (by simp), List.cons_append, List.cons_append] at h4
    have h5 := (List.cons.inj h4).2
    simp only [List.append_assoc] at h5
    obtain ⟨h6, h7⟩ := List.append_inj h5 (by rw [s.2, t.2])
    obtain ⟨h8, h9⟩ := digs_apart k2 l2 h7
    obtain ⟨h10, h11⟩ := flatS_apart h8 h9
    have h10' : N = M := h10
    exact ⟨by rw [Subtype.ext h6, h10'], h11⟩
  · exact absurd (List.cons.inj h4).1 (by decide)
  · exact absurd (List.cons.inj h4).1 (by decide)
  · obtain ⟨a1, a2⟩ := k3 rfl
    obtain ⟨b1, b2⟩ := l3 rfl
    have a1' : s = zSu := a1
    have a2' : N = [] := a2
    have b1' : t = zSu := b1
    have b2' : M = [] := b2
    exact ⟨by rw [a1', a2', b1', b2'], (List.cons.inj h4).2⟩
theorem putK_pos (k : Lk) : putK k ≠ [] := fun h => by
  have h1 := digs_pos k.1.size
  unfold putK at h
  have := List.append_eq_nil_iff.1 h
  rw [this.1] at h1
  simp at h1
theorem flat_apart : ∀ {R S : List Lk}, (∀ k ∈ R, SmL k) → (∀ k ∈ S, SmL k) → R.flatMap putK = S.flatMap putK → R = S
  | [], [], _, _, _ => rfl
  | [], l :: S, _, _, h => by
    rw [List.flatMap_cons] at h
    exact absurd (List.append_eq_nil_iff.1 h.symm).1 (putK_pos l)
  | k :: R, [], _, _, h => by
    rw [List.flatMap_cons] at h
    exact absurd (List.append_eq_nil_iff.1 h).1 (putK_pos k)
  | k :: R, l :: S, hR, hS, h => by
    rw [List.flatMap_cons, List.flatMap_cons] at h
    obtain ⟨h1, h2⟩ := putK_apart (hR k (List.mem_cons_self ..)) (hS l (List.mem_cons_self ..)) h
    rw [h1, flat_apart (fun x hx => hR x (List.mem_cons_of_mem _ hx)) (fun x hx => hS x (List.mem_cons_of_mem _ hx)) h2]
theorem goodK_parts {R : List Lk} (h : goodK R = true) : R.length ≤ 40 ∧ (∀ k ∈ R, okLn k = true) ∧ goodP (R.map entK) = true := by
  unfold goodK at h
  rw [Bool.and_eq_true, Bool.and_eq_true, decide_eq_true_iff, List.all_eq_true] at h
  exact h
theorem goodK_size {R : List Lk} (h : goodK R = true) : ∀ k ∈ R, k.1.size ≤ 68 := fun k hk => by
  have h3 := ((goodP_iff _).1 (goodK_parts h).2.2).2.2.1 (entK k) (List.mem_map_of_mem hk)
  have h4 := okEnt_path h3
  exact ok_size (p := k.1) h4
theorem okLn_names {k : Lk} (h : okLn k = true) : k.2.2.2.length ≤ 2048 := by
  unfold okLn at h
  rw [Bool.and_eq_true] at h
  have h1 := h.2
  split at h1
  · rw [Bool.and_eq_true, decide_eq_true_iff] at h1; omega
  · rw [decide_eq_true_iff] at h1; exact h1
theorem goodK_sm {R : List Lk} (h : goodK R = true) : ∀ k ∈ R, SmL k := fun k hk => by
  have h1 := (goodK_parts h).2.1 k hk
  have h2 := goodK_size h k hk
  have h3 := okLn_names h1
  refine ⟨by omega, by omega, fun hd => ?_⟩
  unfold okLn at h1
  rw [Bool.and_eq_true, if_pos hd, Bool.and_eq_true, decide_eq_true_iff, decide_eq_true_iff] at h1
  exact ⟨h1.2.2, List.eq_nil_of_length_eq_zero h1.2.1⟩
/-- Recipes that may be are told apart by their bytes. -/
theorem putR_apart {R S : List Lk} (hR : goodK R = true) (hS : goodK S = true) : putR R = putR S ↔ R = S := by
  refine ⟨fun h => ?_, fun h => by rw [h]⟩
  unfold putR at h
  rw [if_pos hR, if_pos hS] at h
  exact flat_apart (goodK_sm hR) (goodK_sm hS) h
theorem flatS_len : ∀ L : List Su, (flatS L).length = L.length * 32
  | [] => rfl
  | x :: L => by
    have e : flatS (x :: L) = x.1 ++ flatS L := rfl
    rw [e, List.length_append, x.2, flatS_len L, List.length_cons]; omega
end Go.Proofs.YtmjonlffhhehjaaGreatDoor
/- Contracts: a sum's Zero; recipe's goodLine. Condition: a path shorter than 2^63 bytes. -/
namespace Go.Proofs.YtmjonlffhhehjaaGreatDoor
open Go.RowKit
theorem gdSumZ : Tryz.prog.eqGuardType Tryz.prog.depth 31 = false := by kernel_rfl
theorem built_zero : Tryz.prog.built 31 [] = some (encU zSu).toArray := by kernel_rfl
set_option maxHeartbeats 4000000 in
set_option maxRecDepth 100000 in
theorem szero_any (s : Su) (w : World) :
    Calls Tryz.prog 82 #[.agg (encU s).toArray] w fun e w' => e = .returned (.bool (decide (s = zSu))) ∧ Below w.heap.size w w' := by
  have HB := Lib.hid ((Below.refl w.heap.size w).alloc (Nat.le_refl _) (.cells (encU s).toArray 31))
  have HAS : Hid (Has (w.alloc (.cells (encU s).toArray 31)) w.heap.size 31 (encU s)) := Lib.hid (Has.made' w _ _ _ rfl)
  go_enter Tryz.func82, Tryz.ntmps82
  go_upto_region 1 with fail
  generalize w.alloc (.cells (encU s).toArray 31) = w0 at *
  generalize hg : w.heap.size = g at *
  refine wp_region_lit ?_
  try simp only [Act.put, List.setIfInBounds_toArray, List.set_cons_zero, List.set_cons_succ]
  refine lp_pure (by kernel_rfl) (load_su 31 (.tmp 1) rfl ⟨g, 0, none⟩ rfl elSum.2.1 szSum s (fun j u hu => by rw [add_lit', Nat.zero_add]; exact HAS.out.cellv hu)) ?_
  try simp only [Act.put, List.setIfInBounds_toArray, List.set_cons_zero, List.set_cons_succ]
  refine lp_pure (by kernel_rfl) (build_su 31 #[] rfl zSu [] (by simp) built_zero) ?_
  try simp only [Act.put, List.setIfInBounds_toArray, List.set_cons_zero, List.set_cons_succ]
  refine lp_pure (by kernel_rfl) (eql_su 31 (.tmp 3) (.tmp 4) _ rfl s zSu rfl rfl elSum.2.1 gdSumZ) ?_
  try simp only [Act.put, List.setIfInBounds_toArray, List.set_cons_zero, List.set_cons_succ]
  refine lp_pure (v := ?_) (by kernel_rfl) ?_ ?_
  rotate_left
  · go_simp; try with_reducible rfl
  try simp only [Act.put, List.setIfInBounds_toArray, List.set_cons_zero, List.set_cons_succ]
  refine wpList_nil ?_
  go_wp2_with fail
  go_ret
  subst hg
  exact ⟨rfl, HB.out⟩
set_option maxHeartbeats 4000000 in
set_option maxRecDepth 100000 in
theorem goodLine_any (p : Ln) (w : World) (hp : p.1.size < 9223372036854775808) (hn : p.2.2.2.2.length < 9223372036854775808) (hu : Us w p.2.2.2.1 p.2.2.2.2) :
    Calls Tryz.prog 41 #[.agg (encL p).toArray] w fun e w' => e = .returned (.bool (okLn (keyL p))) ∧ Below w.heap.size w w' := by
  obtain ⟨x, d, s, v, N⟩ := p
  obtain ⟨q, c, hv, _, _, _⟩ := hu
  simp only [] at hv hp hn
  subst hv
  have HB0 := Lib.hid ((Below.refl w.heap.size w).alloc (Nat.le_refl _) (.cells (encL (x, d, s, .slice q N.length c, N)).toArray 34))
  have HAS : Hid (Has (w.alloc (.cells (encL (x, d, s, .slice q N.length c, N)).toArray 34)) w.heap.size 34 (encL (x, d, s, .slice q N.length c, N))) := Lib.hid (Has.made' w _ _ _ rfl)
  have HIN := Lib.hid (fun w1 => inside_any x hp w1)
  have hpa : okLn (keyL (x, d, s, .slice q N.length c, N)) = (!insideL x.data.toList && (if d = true then decide (N.length = 0) && decide (s = zSu) else decide (N.length ≤ 2048))) := rfl
  obtain ⟨V, hV⟩ : ∃ V, okLn (keyL (x, d, s, .slice q N.length c, N)) = V := ⟨_, rfl⟩
  rw [hV]
  rw [hV] at hpa
  generalize insideL x.data.toList = I at *
  have HV := Lib.hid hpa
  clear hpa hp hV
  have HC0 : Hid ((encL (x, d, s, .slice q N.length c, N))[0]? = some (.string x)) := Lib.hid rfl
  have HC1 : Hid ((encL (x, d, s, .slice q N.length c, N))[1]? = some (.bool d)) := Lib.hid rfl
  have HCS : Hid (∀ j u, (encU s)[j]? = some u → (encL (x, d, s, .slice q N.length c, N))[j + 2]? = some u) := Lib.hid (fun j u h => encL_su (p := (x, d, s, .slice q N.length c, N)) h)
  have HC34 : Hid ((encL (x, d, s, .slice q N.length c, N))[34]? = some (.slice q N.length c)) := Lib.hid (encL_n _)
  go_enter Tryz.func41, Tryz.ntmps41
  go_upto_region 1 with fail
  generalize w.alloc (.cells (encL (x, d, s, .slice q N.length c, N)).toArray 34) = w0 at *
  generalize encL (x, d, s, .slice q N.length c, N) = L at *
  have HG : Hid (w.heap.size < w0.heap.size) := Lib.hid HAS.out.lt
  obtain ⟨g, hg⟩ : ∃ g, g = w.heap.size := ⟨_, rfl⟩
  rw [← hg] at HAS HG ⊢
  have HGE := Lib.hid hg
  clear hg
  have c0 := HAS.out.cellv HC0.out
  cases I with
  | true =>
    go_wp2_with (first | ((with_reducible refine (HIN.out _).mono ?_); rintro e w1 ⟨rfl, hb⟩; have HB := Lib.hid (HB0.out.trans (hb.mono HB0.out.size)); have HA := Lib.hid (HAS.out.keep hb HG.out); have c1 := HA.out.cellv HC1.out; have c34 := HA.out.cellv HC34.out; clear hb))
    go_ret
    exact ⟨by rw [HV.out]; rfl, HB.out⟩
  | false =>
    cases d with
    | false =>
      by_cases h : N.length ≤ 2048
      · have k : (N.length : Int) ≤ 2048 := by omega
        go_wp2_with (first | ((with_reducible refine (HIN.out _).mono ?_); rintro e w1 ⟨rfl, hb⟩; have HB := Lib.hid (HB0.out.trans (hb.mono HB0.out.size)); have HA := Lib.hid (HAS.out.keep hb HG.out); have c1 := HA.out.cellv HC1.out; have c34 := HA.out.cellv HC34.out; clear hb))
        go_ret
        exact ⟨by rw [HV.out]; simp [h], HB.out⟩
      · have k : ((N.length : Int) ≤ 2048) = False := eq_false (by omega)
        go_wp2_with (first | ((with_reducible refine (HIN.out _).mono ?_); rintro e w1 ⟨rfl, hb⟩; have HB := Lib.hid (HB0.out.trans (hb.mono HB0.out.size)); have HA := Lib.hid (HAS.out.keep hb HG.out); have c1 := HA.out.cellv HC1.out; have c34 := HA.out.cellv HC34.out; clear hb))
        go_ret
        exact ⟨by rw [HV.out]; simp [h], HB.out⟩
    | true =>
      go_upto_region 4 with ((with_reducible refine (HIN.out _).mono ?_); rintro e w1 ⟨rfl, hb⟩; have HB := Lib.hid (HB0.out.trans (hb.mono HB0.out.size)); have HA := Lib.hid (HAS.out.keep hb HG.out); have c1 := HA.out.cellv HC1.out; have c34 := HA.out.cellv HC34.out; clear hb)
      clear c0 HIN HAS HB0 c1
      have HSU : Hid (∀ j u, (encU s)[j]? = some u → w1.cell? ((⟨g, 2, none⟩ : Addr).add j) = some u) := Lib.hid (fun j u hu => by rw [add_lit', Nat.add_comm]; exact HA.out.cellv (HCS.out j u hu))
      by_cases h : N.length = 0
      · have k : ((N.length : Int) == 0) = true := beq_iff_eq.2 (by omega)
        have HZ := Lib.hid (szero_any s w1)
        refine wp_region_lit ?_
        try simp only [Act.put, List.setIfInBounds_toArray, List.set_cons_zero, List.set_cons_succ]
        refine lp_pure (v := ?_) (by kernel_rfl) ?_ ?_
        rotate_left
        · go_simp; try with_reducible rfl
        try simp only [Act.put, List.setIfInBounds_toArray, List.set_cons_zero, List.set_cons_succ]
        refine lp_pure (v := ?_) (by kernel_rfl) ?_ ?_
        rotate_left
        · go_simp; try with_reducible rfl
        try simp only [Act.put, List.setIfInBounds_toArray, List.set_cons_zero, List.set_cons_succ]
        refine lp_pure (v := ?_) (by kernel_rfl) ?_ ?_
        rotate_left
        · go_simp; try with_reducible rfl
        try simp only [Act.put, List.setIfInBounds_toArray, List.set_cons_zero, List.set_cons_succ]
        refine lp_pure (v := ?_) (by kernel_rfl) ?_ ?_
        rotate_left
        · go_simp; try with_reducible rfl
        try simp only [Act.put, List.setIfInBounds_toArray, List.set_cons_zero, List.set_cons_succ]
        refine lp_pure (v := ?_) (by kernel_rfl) ?_ ?_
        rotate_left
        · go_simp; try with_reducible rfl
        try simp only [Act.put, List.setIfInBounds_toArray, List.set_cons_zero, List.set_cons_succ]
        refine lp_pure (v := ?_) (by kernel_rfl) ?_ ?_
        rotate_left
        · go_simp; try with_reducible rfl
        try simp only [Act.put, List.setIfInBounds_toArray, List.set_cons_zero, List.set_cons_succ]
        refine lp_pure (by kernel_rfl) (load_su 31 (.tmp 13) rfl ⟨g, 2, none⟩ rfl elSum.2.1 szSum s HSU.out) ?_
        try simp only [Act.put, List.setIfInBounds_toArray, List.set_cons_zero, List.set_cons_succ]
        refine lp_step (by kernel_rfl) (fun K hK => ?_)
        go_wp2_with fail
        refine Calls.mono (HZ.out) ?_
        rintro e w2 ⟨rfl, hb⟩
        have HB2 := Lib.hid (HB.out.trans (hb.mono HB.out.size))
        clear hb HZ
        refine hK _ _ ?_
        clear hK
        try simp only [Act.put, List.setIfInBounds_toArray, List.set_cons_zero, List.set_cons_succ]
        refine lp_pure (v := ?_) (by kernel_rfl) ?_ ?_
        rotate_left
        · go_simp; try with_reducible rfl
        try simp only [Act.put, List.setIfInBounds_toArray, List.set_cons_zero, List.set_cons_succ]
        refine lp_pure (v := ?_) (by kernel_rfl) ?_ ?_
        rotate_left
        · go_simp; try with_reducible rfl
        try simp only [Act.put, List.setIfInBounds_toArray, List.set_cons_zero, List.set_cons_succ]
        refine wpList_nil ?_
        go_wp2_with fail
        go_ret
        exact ⟨by rw [HV.out]; simp [h], HB2.out⟩
      · have k : ((N.length : Int) == 0) = false := beq_false_of_ne (by omega)
        refine wp_region_lit ?_
        try simp only [Act.put, List.setIfInBounds_toArray, List.set_cons_zero, List.set_cons_succ]
        refine lp_pure (v := ?_) (by kernel_rfl) ?_ ?_
        rotate_left
        · go_simp; try with_reducible rfl
        try simp only [Act.put, List.setIfInBounds_toArray, List.set_cons_zero, List.set_cons_succ]
        refine lp_pure (v := ?_) (by kernel_rfl) ?_ ?_
        rotate_left
        · go_simp; try with_reducible rfl
        try simp only [Act.put, List.setIfInBounds_toArray, List.set_cons_zero, List.set_cons_succ]
        refine lp_pure (v := ?_) (by kernel_rfl) ?_ ?_
        rotate_left
        · go_simp; try with_reducible rfl
        try simp only [Act.put, List.setIfInBounds_toArray, List.set_cons_zero, List.set_cons_succ]
        refine lp_pure (v := ?_) (by kernel_rfl) ?_ ?_
        rotate_left
        · go_simp; try with_reducible rfl
        try simp only [Act.put, List.setIfInBounds_toArray, List.set_cons_zero, List.set_cons_succ]
        refine lp_pure (v := ?_) (by kernel_rfl) ?_ ?_
        rotate_left
        · go_simp; try with_reducible rfl
        try simp only [Act.put, List.setIfInBounds_toArray, List.set_cons_zero, List.set_cons_succ]
        refine lp_skip (by kernel_rfl) ?_
        try simp only [Act.put, List.setIfInBounds_toArray, List.set_cons_zero, List.set_cons_succ]
        refine lp_skip (by kernel_rfl) ?_
        try simp only [Act.put, List.setIfInBounds_toArray, List.set_cons_zero, List.set_cons_succ]
        refine lp_skip (by kernel_rfl) ?_
        try simp only [Act.put, List.setIfInBounds_toArray, List.set_cons_zero, List.set_cons_succ]
        refine lp_pure (v := ?_) (by kernel_rfl) ?_ ?_
        rotate_left
        · go_simp; try with_reducible rfl
        try simp only [Act.put, List.setIfInBounds_toArray, List.set_cons_zero, List.set_cons_succ]
        refine lp_pure (v := ?_) (by kernel_rfl) ?_ ?_
        rotate_left
        · go_simp; try with_reducible rfl
        try simp only [Act.put, List.setIfInBounds_toArray, List.set_cons_zero, List.set_cons_succ]
        refine wpList_nil ?_
        go_wp2_with fail
        go_ret
        exact ⟨by rw [HV.out]; simp [h], HB.out⟩
end Go.Proofs.YtmjonlffhhehjaaGreatDoor
/- Variables that hold a recipe's line: laid, copied, read; an entry put behind a row of entries. No condition. -/
namespace Go.Proofs.YtmjonlffhhehjaaGreatDoor
open Go.RowKit
theorem elLn : ElL 24 34 := ⟨Tryz.underlying24, ⟨_, Tryz.underlying34⟩, by kernel_rfl⟩
def zLn : Array Value := #[.string ⟨#[]⟩, .bool false] ++ Array.replicate 32 (.int .u8 0) ++ #[.slice none 0 0]
theorem zLn_run (w : World) : (zeroValue 34).run Tryz.prog w = .ok (.agg zLn) w := by kernel_rfl
theorem zLn_size : zLn.size = 35 := by kernel_rfl
theorem szLn : (Tryz.prog.info? 34).map (·.size) = some 35 := by kernel_rfl
theorem encL_all {p : Ln} (h : p.2.2.2.1.oneCell' = true) : (encL p).toArray.all (·.oneCell') = true := by
  refine Array.all_eq_true_iff_forall_mem.2 fun v hv => ?_
  have hv' : v ∈ encL p := by simpa using hv
  rcases List.mem_cons.1 hv' with rfl | hv'
  · rfl
  rcases List.mem_cons.1 hv' with rfl | hv'
  · rfl
  rcases List.mem_append.1 hv' with h1 | h1
  · exact encU_one _ v h1
  · rw [List.mem_singleton.1 h1]; exact h
section
variable {ops : Array Oper} {rest : List Oper} {o o2 : Oper} {a : Act} {w : World} {Q : Exit → Act → World → Prop}
/-- A variable is laid, and a line is copied into it. -/
theorem wp_copy_ln (hgd : o.guard = none) (ho : o.op = .alloc 34) (hgd2 : o2.guard = none) (x y : Operand) (ho2 : o2.op = .store 34 x y) (p : Ln) (h1 : p.2.2.2.1.oneCell' = true)
    (hx : (a.put o.dst (.pointer (some ⟨w.heap.size, 0, none⟩))).eval x = .pointer (some ⟨w.heap.size, 0, none⟩)) (hy : (a.put o.dst (.pointer (some ⟨w.heap.size, 0, none⟩))).eval y = .agg (encL p).toArray)
    (h : ∀ w', Has w' w.heap.size 34 (encL p) → Below w.heap.size w w' → wpList Tryz.prog ops Q rest ((a.put o.dst (.pointer (some ⟨w.heap.size, 0, none⟩))).put o2.dst undef) w') : wpList Tryz.prog ops Q (o :: o2 :: rest) a w := by
  refine wpList_alloc hgd _ ho zLn (zLn_run w) ?_
  have hh : Has (w.alloc (.cells zLn 34)) w.heap.size 34 zLn.toList := Has.made' _ _ _ _ (by simp)
  refine wpList_store_row hgd2 _ x y ho2 w.heap.size (encL p).toArray hx hy _ zLn.toList.toArray hh (by rw [szLn, List.size_toArray, encL_len]) (by rw [List.size_toArray, List.size_toArray, encL_len]; exact zLn_size) (encL_all h1) ?_
  exact h _ (hh.rowl _) (below_row ((Below.refl _ _).alloc (Nat.le_refl _) _) (Nat.le_refl _) _)
end
/-- A line is read out of its variable. -/
theorem load_boxL {o : Oper} {ev : Operand → Value} {w : World} (x : Operand) (ho : o.op = .load 34 x) (g : Nat) (hx : ev x = .pointer (some ⟨g, 0, none⟩)) (p : Ln) (h : Has w g 34 (encL p)) :
    (execOp ev o).run Tryz.prog w = .ok (.value (.agg (encL p).toArray)) w :=
  load_ln 24 34 elLn x ho ⟨g, 0, none⟩ hx p (fun j u hu => by rw [add_lit', Nat.zero_add]; exact h.cellv hu)
/-- One entry is put behind a row that the call owns. -/
theorem wp_addTe {ops : Array Oper} {rest : List Oper} {o : Oper} {a : Act} {Q : Exit → Act → World → Prop}
    (hgd : o.guard = none) (sl x : Operand) (ho : o.op = .call { callee := .builtin .append, args := #[sl, x], argTypes := #[26, 26] }) {w : World} {base : Nat} {v : Value} {C : List Ent} (R : OwnT w base v C) (hbase : base ≤ w.heap.size)
    (hs : a.eval sl = v) (g : Nat) (e : Ent) (hx : a.eval x = .slice (some ⟨g, 0, none⟩) 1 1) (hc : Has w g 47 (entC e)) (h1 : e.2.2.1.oneCell' = true) (hn : C.length ≤ 1000000)
    (h : ∀ v' w', OwnT w' base v' (C ++ [e]) → w.grownBy w' v.ownBlock → wpList Tryz.prog ops Q rest (a.put o.dst v') w') : wpList Tryz.prog ops Q (o :: rest) a w := by
  obtain ⟨i0, hi, hz0, hz1, hz2⟩ := info_parts ent_infoT
  refine wpList_append_own _ hgd sl x 26 ho base 47 i0 _ 3 48 Tryz.underlying26 hi hz0 hz1 hz2 rfl (by decide) v C.length (rowC C) hs R ⟨g, 0, none⟩ 1 1 (entC e) hx rfl ?_ ?_ (by unfold maxLen; omega) ?_ hbase
    fun v' w' ho' hg' _ => h v' w' (by unfold OwnT; rw [rowC_add, List.length_append]; exact ho') hg'
  · intro j u hj
    have e2 : (Addr.add ⟨g, 0, none⟩ j) = ⟨g, j, none⟩ := by unfold Addr.add; split <;> simp_all
    rw [e2]; exact hc.cellv hj
  · intro u hu
    simp only [entC, List.mem_cons, List.mem_nil_iff, or_false] at hu
    rcases hu with rfl | rfl | rfl
    · rfl
    · rfl
    · exact h1
  · exact Nat.le_trans (Nat.mul_le_mul (show C.length + 1 ≤ 1000001 by omega) (Nat.le_refl 48)) (by decide)
theorem OwnT.lt {w : World} {base : Nat} {v : Value} {C : List Ent} (h : OwnT w base v C) : ∀ k, Value.ownBlock v = some k → base ≤ k := own_base3 h
end Go.Proofs.YtmjonlffhhehjaaGreatDoor
/- Contract: recipe's Good. Conditions: paths shorter than 2^63 bytes, fewer than 2^63 lines and names of a line. -/
namespace Go.Proofs.YtmjonlffhhehjaaGreatDoor
open Go.RowKit
theorem entK_nil (w : World) (L : List Lk) : Ents w (L.map entK) := fun e he => by
  obtain ⟨k, _, rfl⟩ := List.mem_map.1 he
  exact Bs.nil w
theorem entK_bytes : ∀ L : List Lk, bytesT (L.map entK) = 0
  | [] => rfl
  | k :: L => by
    have h := entK_bytes L
    unfold bytesT at h ⊢
    rw [List.map_cons, List.map_cons, List.sum_cons, h]; rfl
set_option maxHeartbeats 8000000 in
set_option maxRecDepth 100000 in
theorem goodK_any (L : List Ln) (q : Option Addr) (c : Nat) (w : World) (hm : L.length < 9223372036854775808) (hn : ∀ l ∈ L, l.1.size < 9223372036854775808 ∧ l.2.2.2.2.length < 9223372036854775808) (hs : Sees w w.heap.size q (rowL L)) (hb : Lnb w L) :
    Calls Tryz.prog 12 #[.slice q L.length c] w fun e w' => e = .returned (.bool (goodK (L.map keyL))) ∧ Below w.heap.size w w' := by
  have HS := Lib.hid hs
  have HLB := Lib.hid hb
  have HN := Lib.hid hn
  obtain ⟨V, hV⟩ : ∃ V, goodK (L.map keyL) = V := ⟨_, rfl⟩
  rw [hV]
  unfold goodK at hV
  rw [List.length_map] at hV
  have HV := Lib.hid hV
  clear hs hb hn hV
  by_cases h40 : L.length ≤ 40
  case neg =>
    have k : (L.length : Int) > 40 := by omega
    go_enter Tryz.func12, Tryz.ntmps12
    go_wp2_with fail
    go_ret
    exact ⟨by rw [← HV.out, decide_eq_false h40]; rfl, Below.refl _ _⟩
  have k : ¬ (L.length : Int) > 40 := by omega
  have HW : Hid (((L.map keyL).all okLn && goodP ((L.map keyL).map entK)) = V) := Lib.hid (by have := HV.out; rw [decide_eq_true h40, Bool.true_and] at this; exact this)
  clear HV
  go_enter Tryz.func12, Tryz.ntmps12
  go_upto_region 4 with fail
  have HT0 : Hid (Has (w.alloc (.cells #[.slice none 0 0] 28)) w.heap.size 28 [.slice none 0 0]) := Lib.hid (Has.made w _ _)
  have HB0 := Lib.hid ((Below.refl w.heap.size w).alloc (Nat.le_refl _) (.cells #[.slice none 0 0] 28))
  generalize w.alloc (.cells #[.slice none 0 0] 28) = w0 at *
  obtain ⟨g, hg⟩ : ∃ g, g = w.heap.size := ⟨_, rfl⟩
  rw [← hg] at HT0 ⊢
  have HGE := Lib.hid hg
  have HO0 := Lib.hid (OwnT.nil w0 (g + 1))
  clear hg k
  go_upto_region 5 with fail
  go_loopw [11] (fun vi wr => ∃ (j : Nat) (v : Value), j ≤ L.length ∧ vi = .int .i64 j ∧ ((L.take j).map keyL).all okLn = true ∧ Has wr g 28 [v] ∧ OwnT wr (g + 1) v (((L.take j).map keyL).map entK) ∧ Below w.heap.size w wr) (fun vi _ => L.length - (intOf vi).toNat)
  case atStart => exact ⟨0, _, by omega, rfl, rfl, HT0.out, HO0.out, HB0.out⟩
  case round =>
    clear HT0 HO0 HB0
    rename_i wr
    obtain ⟨j, v, hj, rfl, hall, hT, hO, hB⟩ := hrel
    have HA := Lib.hid hall
    have HT := Lib.hid hT
    have HO := Lib.hid hO
    have HB := Lib.hid hB
    clear hall hT hO hB
    by_cases hlt : j < L.length
    · obtain ⟨ad, rfl, _, hcell⟩ := Sees.ln (HS.out.keep HB.out) hlt
      obtain ⟨p, hp⟩ : ∃ p, p = L[j] := ⟨_, rfl⟩
      have hmem : p ∈ L := by rw [hp]; exact List.getElem_mem hlt
      have HTK : Hid ((L.take (j + 1)).map keyL = (L.take j).map keyL ++ [keyL p]) := Lib.hid (by rw [List.take_add_one, List.getElem?_eq_getElem hlt, ← hp, List.map_append]; rfl)
      have HDR : Hid (L.drop j = p :: L.drop (j + 1)) := Lib.hid (by rw [hp]; exact List.drop_eq_getElem_cons hlt)
      rw [← hp] at hcell
      have hus := (HLB.out p hmem).keep HB.out
      have HUS := Lib.hid hus
      have HONE := Lib.hid hus.one
      have HSZ := Lib.hid (HN.out p hmem)
      have HCELL := Lib.hid hcell
      clear hcell hus hp hmem
      have hjj : (j : Int) < (L.length : Int) := by omega
      go_upto_region 6 with fail
      refine wp_region_lit ?_
      try simp only [Act.put, List.setIfInBounds_toArray, List.set_cons_zero, List.set_cons_succ]
      refine lp_pure (v := ?_) (by kernel_rfl) ?_ ?_
      rotate_left
      · go_simp; try with_reducible rfl
      try simp only [Act.put, List.setIfInBounds_toArray, List.set_cons_zero, List.set_cons_succ]
      refine lp_pure (by kernel_rfl) (load_ln 24 34 elLn (.tmp 13) rfl (ad.add (j * 35)) rfl p (HCELL.out _ (Below.refl _ _))) ?_
      try simp only [Act.put, List.setIfInBounds_toArray, List.set_cons_zero, List.set_cons_succ]
      refine wp_copy_ln rfl rfl rfl (.tmp 5) (.tmp 14) rfl p HONE.out rfl rfl ?_
      intro w7 h1 h2
      have HP := Lib.hid h1
      have HB7 := Lib.hid h2
      clear h1 h2 HCELL
      have HT7 := Lib.hid (HT.out.keep HB7.out HT.out.lt)
      have HO7 := Lib.hid (HO.out.keep HB7.out)
      have HBB := Lib.hid (HB.out.trans (HB7.out.mono HB.out.size))
      have HGL := Lib.hid (goodLine_any p w7 HSZ.out.1 HSZ.out.2 (HUS.out.keep HB7.out))
      have HGW : Hid (g < wr.heap.size ∧ wr.heap.size < w7.heap.size) := Lib.hid ⟨HT.out.lt, HP.out.lt⟩
      clear HT HO HB HB7 HUS
      generalize wr.heap.size = b at *
      try simp only [Act.put, List.setIfInBounds_toArray, List.set_cons_zero, List.set_cons_succ]
      refine wpList_nil ?_
      go_upto_region 7 with fail
      refine wp_region_lit ?_
      try simp only [Act.put, List.setIfInBounds_toArray, List.set_cons_zero, List.set_cons_succ]
      refine lp_pure (by kernel_rfl) (load_boxL (.tmp 5) rfl b rfl p HP.out) ?_
      try simp only [Act.put, List.setIfInBounds_toArray, List.set_cons_zero, List.set_cons_succ]
      refine lp_step (by kernel_rfl) (fun K hK => ?_)
      go_wp2_with fail
      refine Calls.mono (HGL.out) ?_
      rintro e w8 ⟨rfl, hb⟩
      have HB8 := Lib.hid (HBB.out.trans (hb.mono HBB.out.size))
      have HT8 := Lib.hid (HT7.out.keep hb HT7.out.lt)
      have HO8 := Lib.hid (HO7.out.keep hb)
      have HP8 := Lib.hid (HP.out.keep hb HP.out.lt)
      have HG8 : Hid (w7.heap.size ≤ w8.heap.size) := Lib.hid hb.size
      clear hb HGL HT7 HO7 HP HBB
      refine hK _ _ ?_
      clear hK
      try simp only [Act.put, List.setIfInBounds_toArray, List.set_cons_zero, List.set_cons_succ]
      refine lp_pure (v := ?_) (by kernel_rfl) ?_ ?_
      rotate_left
      · go_simp; try with_reducible rfl
      try simp only [Act.put, List.setIfInBounds_toArray, List.set_cons_zero, List.set_cons_succ]
      refine wpList_nil ?_
      cases hk : okLn (keyL p) with
      | false =>
        have HF : Hid (V = false) := Lib.hid (by
          have h := HW.out
          rw [show L.map keyL = (L.take j).map keyL ++ (keyL p :: (L.drop (j + 1)).map keyL) by conv => lhs; rw [← List.take_append_drop j L, List.map_append, HDR.out, List.map_cons]] at h
          rw [List.all_append, List.all_cons, hk, Bool.false_and, Bool.and_false, Bool.false_and] at h
          exact h.symm)
        clear hk
        simp only [Bool.not_false]
        go_wp2_with fail
        go_ret
        exact ⟨by rw [HF.out]; rfl, HB8.out⟩
      | true =>
        have HA2 : Hid (((L.take (j + 1)).map keyL).all okLn = true) := Lib.hid (by rw [HTK.out, List.all_append, HA.out, List.all_cons, hk]; rfl)
        clear hk HA
        obtain ⟨x, d, s, nv, N⟩ := p
        have cx := HP8.out.cellv (i := 0) (encL_0 _)
        have cd := HP8.out.cellv (i := 1) (encL_1 _)
        have cv := HT8.out.cellv (i := 0) rfl
        simp only [] at cx cd
        have HBG : Hid (g + 1 ≤ w8.heap.size) := Lib.hid (by have := HGW.out; have := HG8.out; omega)
        have HLEN : Hid ((((L.take j).map keyL).map entK).length ≤ 1000000) := Lib.hid (by rw [List.length_map, List.length_map, List.length_take]; omega)
        simp only [Bool.not_true]
        go_wp2_with (refine wp_addTe rfl (.tmp 19) (.tmp 25) rfl (HO8.out.keep ((Below.refl _ _).alloc (Nat.le_refl _) _)) (by have := HBG.out; simp; omega) rfl w8.heap.size (x, d, .slice none 0 0, []) rfl (Has.made' _ _ _ _ rfl) rfl HLEN.out ?_; intro v9 w9 h1 h2; obtain ⟨x9, m9, c9, rfl⟩ := own_slice' h1; have HO9 := Lib.hid h1; have HB9 : Hid (Below (g + 1) w8 w9) := Lib.hid (((Below.refl (g + 1) w8).alloc HBG.out _).grown h2 (by have := HBG.out; simp; omega) (fun k hk => OwnT.lt HO8.out k hk)); have HT9 := Lib.hid (HT8.out.keep HB9.out (Nat.lt_succ_self g)); have cc9 := HT9.out.cellv (i := 0) rfl; have ff9 := HT9.out.free 0; clear h1 h2)
        have HBF := Lib.hid (HB8.out.trans (HB9.out.mono (by have := HGE.out; omega)))
        go_roundw
        case rel =>
          refine ⟨j + 1, .slice x9 m9 c9, by omega, by go_num, HA2.out, HT9.out.put 0 _, ?_, HBF.out.setCell (by have := HGE.out; show w.heap.size ≤ g; omega) _⟩
          rw [HTK.out, List.map_append]
          exact HO9.out.set (show g < g + 1 by omega) _
        case measure => simp [intOf]; omega
    · have hjl : j = L.length := by omega
      subst hjl
      have kk : ¬ ((L.length : Int) < (L.length : Int)) := by omega
      have ha := HA.out
      have ho := HO.out
      rw [List.take_length] at ha ho
      obtain ⟨qv, cv, hv, hcv, hqv, hse⟩ := ho.tr
      have hll : ((L.map keyL).map entK).length = L.length := by rw [List.length_map, List.length_map]
      have HGD := Lib.hid (tgood_any ((L.map keyL).map entK) qv cv (by omega) hcv (by rw [entK_bytes]; omega) (fun e he => by
        obtain ⟨k, hk, rfl⟩ := List.mem_map.1 he
        obtain ⟨l, hl, rfl⟩ := List.mem_map.1 hk
        exact (HN.out l hl).1) wr hse (entK_nil _ _))
      have HF : Hid (goodP ((L.map keyL).map entK) = V) := Lib.hid (by have := HW.out; rw [ha, Bool.true_and] at this; exact this)
      subst hv
      rw [HF.out] at HGD
      have cb := HT.out.cellv (i := 0) rfl
      rw [hll] at HGD cb
      clear ha ho hll hse hcv hqv
      go_wp2_with (refine HGD.out.mono ?_; rintro e w8 ⟨rfl, hb⟩; have HB8 := Lib.hid (HB.out.trans (hb.mono HB.out.size)); clear hb)
      go_ret
      exact ⟨rfl, HB8.out⟩
end Go.Proofs.YtmjonlffhhehjaaGreatDoor
/- A map from sums to whole numbers in memory: looked up, one put in. No condition. -/
namespace Go.Proofs.YtmjonlffhhehjaaGreatDoor
open Go.RowKit Go.WideMaps
theorem arrSum : ArrKey Tryz.prog 31 5 32 := ⟨Tryz.underlying31, by kernel_rfl, by kernel_rfl, by kernel_rfl⟩
theorem lawSum : KeyLaw Tryz.prog 31 := arrSum.law
theorem typesSz : ∃ m, Tryz.prog.types.size = m + 1 := ⟨Tryz.prog.types.size - 1, by kernel_rfl⟩
theorem mapM_some {α β : Type} {f : α → Option β} : ∀ (l : List α), (∀ x ∈ l, ∃ y, f x = some y) → ∃ ys, l.mapM f = some ys
  | [], _ => ⟨[], rfl⟩
  | x :: l, h => by
    obtain ⟨y, hy⟩ := h x (List.mem_cons_self ..)
    obtain ⟨ys, hys⟩ := mapM_some l fun z hz => h z (List.mem_cons_of_mem _ hz)
    exact ⟨y :: ys, by simp [List.mapM_cons, hy, hys]⟩
theorem u8_wf (x : BitVec 8) : (Lit.int .u8 (B x)).wf = true := by
  have h : 0 ≤ B x ∧ B x < 256 := by
    unfold B
    have := x.isLt
    omega
  have h1 : IntKind.u8.min = 0 := rfl
  have h2 : IntKind.u8.max = 255 := rfl
  simp [Lit.wf, h1, h2]
  omega
theorem keyOf_su (s : Su) : ∃ l, keyOf Tryz.prog 31 (aggU s) = some l := by
  have hkt := arrSum.keyType typesSz
  obtain ⟨m, hm⟩ := typesSz
  unfold keyOf aggU
  simp only [arrSum.hu]
  have hl : (encU s).toArray.size = 32 := encU_size s
  rw [if_pos (by simp [hkt, Value.formed, arrSum.hu, arrSum.size, encU_len]), hm]
  unfold Program.keyLits
  simp only [arrSum.hu, Value.cells]
  rw [if_pos (by rw [arrSum.size]; simpa using encU_len s)]
  obtain ⟨ys, hys⟩ := mapM_some (f := fun i => Tryz.prog.keyLits (m + 1) 5 (((encU s).toArray.toList.drop (i * Tryz.prog.cellsOf 5)).take (Tryz.prog.cellsOf 5))) (List.range 32) (fun i hi => by
    have hi' : i < s.1.length := by rw [s.2]; simpa using hi
    have e : ((encU s).toArray.toList.drop (i * Tryz.prog.cellsOf 5)).take (Tryz.prog.cellsOf 5) = [u8v s.1[i]] := by
      rw [arrSum.one, Nat.mul_one]
      unfold encU
      rw [List.toList_toArray, ← List.map_drop, ← List.map_take, List.drop_eq_getElem_cons hi', List.take_succ_cons, List.take_zero]
      rfl
    refine ⟨[.int .u8 (B s.1[i])], ?_⟩
    rw [e]
    unfold Program.keyLits u8v
    simp [Tryz.underlying5, u8_wf])
  rw [hys]
  exact ⟨_, rfl⟩
/-- A map from sums to whole numbers. -/
def MapU (w : World) (r : Nat) (f : Su → Option Nat) : Prop := ∃ es clock, w.heap[r]? = some (.map es clock) ∧ (∀ e ∈ es.toList, ∃ s i, e.key = aggU s ∧ e.val = .int .i64 (i : Nat) ∧ f s = some i) ∧ ∀ s i, f s = some i → ∃ e ∈ es.toList, e.key = aggU s
theorem aggU_inj {s t : Su} (h : aggU s = aggU t) : s = t := by
  unfold aggU at h
  injection h with h
  have h1 : encU s = encU t := by simpa using h
  have h2 : ∀ (a b : List (BitVec 8)), a.map u8v = b.map u8v → a = b := by
    intro a
    induction a with
    | nil => intro b hb; cases b with
      | nil => rfl
      | cons y b => simp at hb
    | cons x a ih => intro b hb; cases b with
      | nil => simp at hb
      | cons y b =>
        simp only [List.map_cons, List.cons.injEq] at hb
        obtain ⟨h1, h2⟩ := hb
        have hx : B x = B y := by unfold u8v at h1; injection h1
        have hxy : x = y := by
          unfold B at hx
          exact BitVec.eq_of_toNat_eq (by omega)
        rw [hxy, ih b h2]
  exact Subtype.ext (h2 _ _ h1)
theorem MapU.keys {es : Array MapEntry} {f : Su → Option Nat} (h : ∀ e ∈ es.toList, ∃ s i, e.key = aggU s ∧ e.val = .int .i64 (i : Nat) ∧ f s = some i) : ∀ e ∈ es.toList, ∃ l, keyOf Tryz.prog 31 e.key = some l := fun e he => by
  obtain ⟨s, i, hk, _⟩ := h e he
  rw [hk]; exact keyOf_su s
theorem lookup_u {w : World} {r : Nat} {f : Su → Option Nat} (h : MapU w r f) (s : Su) :
    (Instr.lookup 174 (.map (some r)) (aggU s) true).run Tryz.prog w = .ok (.tuple #[.int .i64 (((f s).getD 0 : Nat) : Int), .bool (f s).isSome]) w := by
  obtain ⟨es, clock, hb, h1, h2⟩ := h
  obtain ⟨l, hl⟩ := keyOf_su s
  have hc := lawSum.check w es.isEmpty hl
  rcases lawSum.find w hl es.toList (MapU.keys h1) with ⟨hf, hno⟩ | ⟨j, e, hf, hj, hk⟩
  · have hn : f s = none := by
      cases hfs : f s with
      | none => rfl
      | some i => obtain ⟨e, he, hk⟩ := h2 s i hfs; exact absurd hk (hno e he)
    rw [hn]
    simp [Instr.lookup, run_underlying Tryz.underlying174, MapKept.run_getObj_map hb, hc, hf, Result.andThen]
  · have he : e ∈ es.toList := List.mem_of_getElem? hj
    obtain ⟨t, i, hk', hv, hft⟩ := h1 e he
    have : s = t := aggU_inj (hk.symm.trans hk')
    subst this
    rw [hft]
    simp [Instr.lookup, run_underlying Tryz.underlying174, MapKept.run_getObj_map hb, hc, hf, hv, Result.andThen]
theorem below_map {b r : Nat} {a w : World} (h : Below b a w) (hr : b ≤ r) (o : Obj) : Below b a { w with heap := w.heap.setIfInBounds r o } :=
  ⟨h.os, h.tape, h.output, by simpa using h.size, fun k hk => by
    show (w.heap.setIfInBounds r o)[k]? = _
    rw [Array.getElem?_setIfInBounds_ne (by omega)]
    exact h.block k hk⟩
theorem update_u {w : World} {r : Nat} {f : Su → Option Nat} (h : MapU w r f) (s : Su) (hs : f s = none) (i : Nat) :
    ∃ o, (Instr.mapUpdate 174 (.map (some r)) (aggU s) (.int .i64 (i : Int))).run Tryz.prog w = .ok () { w with heap := w.heap.setIfInBounds r o } ∧ MapU { w with heap := w.heap.setIfInBounds r o } r (fun t => if t = s then some i else f t) := by
  obtain ⟨es, clock, hb, h1, h2⟩ := h
  obtain ⟨l, hl⟩ := keyOf_su s
  have hc := lawSum.check w false hl
  rcases lawSum.find w hl es.toList (MapU.keys h1) with ⟨hf, hno⟩ | ⟨j, e, hf, hj, hk⟩
  · refine ⟨.map (es.push { key := aggU s, val := .int .i64 (i : Int), born := clock }) (clock + 1), ?_, _, _, (MapKept.heap_set hb).1, fun e he => ?_, fun t k ht => ?_⟩
    · simp [Instr.mapUpdate, run_underlying Tryz.underlying174, MapKept.run_getObj_map hb, hc, hf, MapKept.run_setObj_map _ hb, Result.andThen]
    · rw [Array.toList_push] at he
      rcases List.mem_append.1 he with he | he
      · obtain ⟨t, k, e1, e2, e3⟩ := h1 e he
        refine ⟨t, k, e1, e2, ?_⟩
        have : t ≠ s := fun hts => by rw [hts, hs] at e3; cases e3
        show (if t = s then some i else f t) = some k
        rw [if_neg this]; exact e3
      · rw [List.mem_singleton.1 he]
        exact ⟨s, i, rfl, rfl, if_pos rfl⟩
    · rw [Array.toList_push]
      by_cases hts : t = s
      · subst hts
        exact ⟨_, List.mem_append_right _ (List.mem_singleton.2 rfl), rfl⟩
      · have ht : (if t = s then some i else f t) = some k := ht
        rw [if_neg hts] at ht
        obtain ⟨e, he, hk⟩ := h2 t k ht
        exact ⟨e, List.mem_append_left _ he, hk⟩
  · have he : e ∈ es.toList := List.mem_of_getElem? hj
    obtain ⟨t, k, hk', hv, hft⟩ := h1 e he
    have : s = t := aggU_inj (hk.symm.trans hk')
    subst this
    rw [hs] at hft; cases hft
theorem MapU.keep {w w' : World} {r b : Nat} {f : Su → Option Nat} (h : MapU w r f) (hb : Below b w w') (hr : r < b) : MapU w' r f := by
  obtain ⟨es, clock, h0, h1⟩ := h
  exact ⟨es, clock, (hb.block r hr).trans h0, h1⟩
theorem MapU.lt {w : World} {r : Nat} {f : Su → Option Nat} (h : MapU w r f) : r < w.heap.size := by
  obtain ⟨es, clock, h0, _⟩ := h
  exact (Array.getElem?_eq_some_iff.1 h0).1
theorem mapU_new (w : World) : MapU (w.alloc (.map #[] 0)) w.heap.size (fun _ => none) :=
  ⟨#[], 0, heap_alloc_new w _, fun e he => by simp at he, fun s i h => by cases h⟩
theorem make_u (w : World) (n : Nat) : (Instr.makeMap 174 (some (.int .i64 (n : Int)))).run Tryz.prog w = .ok (.map (some w.heap.size)) (w.alloc (.map #[] 0)) := by
  have h : (asInt (Value.int .i64 (n : Int))).run Tryz.prog w = .ok (n : Int) w := by rfl
  simp [Instr.makeMap, run_underlying Tryz.underlying174, h, Result.andThen]
end Go.Proofs.YtmjonlffhhehjaaGreatDoor
/- Contract: chunk.firsts: where the first piece of each sum stands. Condition: at most a million pieces. -/
namespace Go.Proofs.YtmjonlffhhehjaaGreatDoor
open Go.RowKit
/-- Where the first piece that says a sum stands. -/
def firstU (L : List Pc) (s : Su) : Option Nat := L.findIdx? fun p => decide (p.1 = s)
theorem firstU_snoc (A : List Pc) (p : Pc) (s : Su) : firstU (A ++ [p]) s = (firstU A s).or (if p.1 = s then some A.length else none) := by
  unfold firstU
  rw [List.findIdx?_append]
  congr 1
  by_cases h : p.1 = s
  · rw [if_pos h]; simp [h]
  · rw [if_neg h]; simp [h]
theorem firstU_new (A : List Pc) (p : Pc) (h : firstU A p.1 = none) : (fun t => if t = p.1 then some A.length else firstU A t) = firstU (A ++ [p]) := by
  funext t
  rw [firstU_snoc]
  by_cases ht : t = p.1
  · subst ht; rw [if_pos rfl, if_pos rfl, h]; rfl
  · rw [if_neg ht, if_neg (fun e => ht e.symm)]; simp
theorem firstU_old (A : List Pc) (p : Pc) {k : Nat} (h : firstU A p.1 = some k) : firstU A = firstU (A ++ [p]) := by
  funext t
  rw [firstU_snoc]
  by_cases ht : t = p.1
  · subst ht; rw [h]; rfl
  · rw [if_neg (fun e => ht e.symm)]; simp
theorem firstU_lt {L : List Pc} {s : Su} {i : Nat} (h : firstU L s = some i) : ∃ hi : i < L.length, L[i].1 = s := by
  unfold firstU at h
  obtain ⟨hi, h1, _⟩ := List.findIdx?_eq_some_iff_getElem.1 h
  exact ⟨hi, by simpa using h1⟩
theorem wpList_update {ops : Array Oper} {rest : List Oper} {o : Oper} {a : Act} {w w' : World} {Q : Exit → Act → World → Prop} (hgd : o.guard = none) (T : TypeId) (x y z : Operand) (ho : o.op = .mapUpdate T x y z) (vx vy vz : Value)
    (_hw : True) (hx : a.eval x = vx) (hy : a.eval y = vy) (hz : a.eval z = vz) (hr : (Instr.mapUpdate T vx vy vz).run Tryz.prog w = .ok () w')
    (h : wpList Tryz.prog ops Q rest (a.put o.dst undef) w') : wpList Tryz.prog ops Q (o :: rest) a w :=
  wpList_plain hgd fun _ hK => by
    unfold Oper.wp execOp
    simp only [ho, hx, hy, hz, Sem.run_bind, hr, Result.andThen_ok]
    exact hK _ _ h
set_option maxHeartbeats 4000000 in
set_option maxRecDepth 100000 in
theorem firsts_any (L : List Pc) (q : Option Addr) (c : Nat) (w : World) (hm : L.length ≤ 1000000) (hs : Sees w w.heap.size q (rowP L)) (hb : Pcb w L) :
    Calls Tryz.prog 113 #[.slice q L.length c] w fun e w' => e = .returned (.map (some w.heap.size)) ∧ MapU w' w.heap.size (firstU L) ∧ Below w.heap.size w w' := by
  have HS := Lib.hid hs
  have HP := Lib.hid hb
  have hmk := make_u w L.length
  have HM0 := Lib.hid (mapU_new w)
  have HB0 := Lib.hid ((Below.refl w.heap.size w).alloc (Nat.le_refl _) (.map #[] 0))
  clear hs hb
  go_enter Tryz.func113, Tryz.ntmps113
  go_upto_region 3 with fail
  clear hmk
  generalize w.alloc (.map #[] 0) = w1 at *
  obtain ⟨r, hr⟩ : ∃ r, r = w.heap.size := ⟨_, rfl⟩
  rw [← hr] at HM0 ⊢
  have HR := Lib.hid hr
  clear hr
  have HM1 : Hid (MapU w1 r (firstU (L.take 0))) := Lib.hid (by rw [List.take_zero]; exact HM0.out)
  clear HM0
  go_loopw [13] (fun vi wr => ∃ j : Nat, j ≤ L.length ∧ vi = .int .i64 j ∧ MapU wr r (firstU (L.take j)) ∧ Below w.heap.size w wr) (fun vi _ => L.length - (intOf vi).toNat)
  case atStart => exact ⟨0, by omega, rfl, HM1.out, HB0.out⟩
  case round =>
    clear HM1 HB0
    rename_i wr
    obtain ⟨j, hj, rfl, hmp, hB⟩ := hrel
    have HM := Lib.hid hmp
    have HB := Lib.hid hB
    clear hmp hB
    by_cases hlt : j < L.length
    · obtain ⟨ad, rfl, hab, hcell⟩ := Sees.pc (HS.out.keep HB.out) hlt
      obtain ⟨p, hp⟩ : ∃ p, p = L[j] := ⟨_, rfl⟩
      rw [← hp] at hcell
      have hone := (HP.out p (by rw [hp]; exact List.getElem_mem hlt)).one
      have HTK : Hid (L.take (j + 1) = L.take j ++ [p]) := Lib.hid (by rw [List.take_add_one, List.getElem?_eq_getElem hlt, ← hp]; rfl)
      have HTL : Hid ((L.take j).length = j) := Lib.hid (by rw [List.length_take]; omega)
      have HCELL := Lib.hid hcell
      have HONE := Lib.hid hone
      clear hcell hone hab hp
      have hjj : (j : Int) < (L.length : Int) := by omega
      have hll : j < 1000000 := by omega
      go_upto_region 4 with fail
      refine wp_region_lit ?_
      try simp only [Act.put, List.setIfInBounds_toArray, List.set_cons_zero, List.set_cons_succ]
      refine lp_pure (v := ?_) (by kernel_rfl) ?_ ?_
      rotate_left
      · go_simp; try with_reducible rfl
      try simp only [Act.put, List.setIfInBounds_toArray, List.set_cons_zero, List.set_cons_succ]
      refine lp_pure (v := ?_) (by kernel_rfl) ?_ ?_
      rotate_left
      · go_simp; try with_reducible rfl
      try simp only [Act.put, List.setIfInBounds_toArray, List.set_cons_zero, List.set_cons_succ]
      refine lp_pure (by kernel_rfl) (load_pc 42 87 elPc (.tmp 16) rfl (ad.add (j * 33)) rfl p (HCELL.out _ (Below.refl _ _))) ?_
      try simp only [Act.put, List.setIfInBounds_toArray, List.set_cons_zero, List.set_cons_succ]
      refine wpList_alloc rfl _ rfl zPc (zPc_run wr) ?_
      try simp only [Act.put, List.setIfInBounds_toArray, List.set_cons_zero, List.set_cons_succ]
      refine lp_pure (v := ?_) (by kernel_rfl) ?_ ?_
      rotate_left
      · go_simp; try with_reducible rfl
      try simp only [Act.put, List.setIfInBounds_toArray, List.set_cons_zero, List.set_cons_succ]
      have hh : Has (wr.alloc (.cells zPc 87)) wr.heap.size 87 zPc.toList := Has.made' _ _ _ _ (by simp)
      refine wpList_store_row rfl _ (.tmp 5) (.tmp 17) rfl wr.heap.size (encP p).toArray rfl rfl _ zPc.toList.toArray hh (by rw [szPc, List.size_toArray, encP_len]) (by rw [List.size_toArray, List.size_toArray, encP_len]; exact zPc_size) (encP_all HONE.out) ?_
      have HAS := Lib.hid (hh.rowl (encP p))
      have HB7 := Lib.hid (below_row ((Below.refl wr.heap.size wr).alloc (Nat.le_refl _) (.cells zPc 87)) (Nat.le_refl _) (encP p).toArray)
      clear hh
      generalize (wr.alloc (.cells zPc 87)).setRow wr.heap.size (encP p).toArray = w7 at *
      have HM7 := Lib.hid (HM.out.keep HB7.out HM.out.lt)
      have HBW := Lib.hid (HB.out.trans (HB7.out.mono HB.out.size))
      have HRN : Hid (r ≠ wr.heap.size) := Lib.hid (by have := HM.out.lt; omega)
      have hlk := lookup_u HM7.out p.1
      unfold aggU at hlk
      generalize wr.heap.size = g at *
      simp only [Act.put]
      refine wpList_nil ?_
      go_upto_region 5 with fail
      refine wp_region_lit ?_
      try simp only [Act.put, List.setIfInBounds_toArray, List.set_cons_zero, List.set_cons_succ]
      refine lp_pure (v := ?_) (by kernel_rfl) ?_ ?_
      rotate_left
      · go_simp; try with_reducible rfl
      try simp only [Act.put, List.setIfInBounds_toArray, List.set_cons_zero, List.set_cons_succ]
      refine lp_pure (v := ?_) (by kernel_rfl) ?_ ?_
      rotate_left
      · go_simp; try with_reducible rfl
      try simp only [Act.put, List.setIfInBounds_toArray, List.set_cons_zero, List.set_cons_succ]
      refine lp_pure (by kernel_rfl) (load_su 31 (.tmp 20) rfl ⟨g, 0, none⟩ rfl elSum.2.1 szSum p.1 (fun j u hu => by rw [add_lit', Nat.zero_add]; exact HAS.out.cellv (encP_su hu))) ?_
      try simp only [Act.put, List.setIfInBounds_toArray, List.set_cons_zero, List.set_cons_succ]
      refine lp_pure (v := ?_) (by kernel_rfl) ?_ ?_
      rotate_left
      · go_simp; try with_reducible rfl
      try simp only [Act.put, List.setIfInBounds_toArray, List.set_cons_zero, List.set_cons_succ]
      refine lp_pure (v := ?_) (by kernel_rfl) ?_ ?_
      rotate_left
      · go_simp; try with_reducible rfl
      try simp only [Act.put, List.setIfInBounds_toArray, List.set_cons_zero, List.set_cons_succ]
      refine lp_pure (v := ?_) (by kernel_rfl) ?_ ?_
      rotate_left
      · go_simp; try with_reducible rfl
      try simp only [Act.put, List.setIfInBounds_toArray, List.set_cons_zero, List.set_cons_succ]
      refine lp_pure (v := ?_) (by kernel_rfl) ?_ ?_
      rotate_left
      · go_simp; try with_reducible rfl
      try simp only [Act.put, List.setIfInBounds_toArray, List.set_cons_zero, List.set_cons_succ]
      refine lp_pure (v := ?_) (by kernel_rfl) ?_ ?_
      rotate_left
      · go_simp; try with_reducible rfl
      try simp only [Act.put, List.setIfInBounds_toArray, List.set_cons_zero, List.set_cons_succ]
      refine lp_pure (v := ?_) (by kernel_rfl) ?_ ?_
      rotate_left
      · go_simp; try with_reducible rfl
      try simp only [Act.put, List.setIfInBounds_toArray, List.set_cons_zero, List.set_cons_succ]
      refine wpList_nil ?_
      clear hlk
      cases hf : firstU (L.take j) p.1 with
      | some k =>
        simp only [Option.isSome_some]
        go_wp2_with fail
        go_roundw
        case rel =>
          refine ⟨j + 1, by omega, by go_num, ?_, HBW.out⟩
          rw [HTK.out, ← firstU_old _ _ hf]; exact HM7.out
        case measure => simp [intOf]; omega
      | none =>
        simp only [Option.isSome_none]
        obtain ⟨ob, hup, hmu⟩ := update_u HM7.out p.1 hf j
        have HMU : Hid (MapU { w7 with heap := w7.heap.setIfInBounds r ob } r (firstU (L.take (j + 1)))) := Lib.hid (by
          rw [HTK.out, ← firstU_new _ _ hf, HTL.out]; exact hmu)
        have HB8 : Hid (Below w.heap.size w { w7 with heap := w7.heap.setIfInBounds r ob }) := Lib.hid (below_map HBW.out (by rw [HR.out]; exact Nat.le_refl _) ob)
        unfold aggU at hup
        clear hmu hf
        go_upto_region 7 with fail
        refine wp_region_lit ?_
        try simp only [Act.put, List.setIfInBounds_toArray, List.set_cons_zero, List.set_cons_succ]
        refine lp_pure (v := ?_) (by kernel_rfl) ?_ ?_
        rotate_left
        · go_simp; try with_reducible rfl
        try simp only [Act.put, List.setIfInBounds_toArray, List.set_cons_zero, List.set_cons_succ]
        refine lp_pure (v := ?_) (by kernel_rfl) ?_ ?_
        rotate_left
        · go_simp; try with_reducible rfl
        try simp only [Act.put, List.setIfInBounds_toArray, List.set_cons_zero, List.set_cons_succ]
        refine lp_pure (by kernel_rfl) (load_su 31 (.tmp 28) rfl ⟨g, 0, none⟩ rfl elSum.2.1 szSum p.1 (fun j u hu => by rw [add_lit', Nat.zero_add]; exact HAS.out.cellv (encP_su hu))) ?_
        try simp only [Act.put, List.setIfInBounds_toArray, List.set_cons_zero, List.set_cons_succ]
        refine lp_pure (v := ?_) (by kernel_rfl) ?_ ?_
        rotate_left
        · go_simp; try with_reducible rfl
        try simp only [Act.put, List.setIfInBounds_toArray, List.set_cons_zero, List.set_cons_succ]
        refine wpList_update rfl 174 (.tmp 27) (.tmp 29) (.tmp 30) rfl _ _ _ trivial rfl rfl rfl hup ?_
        simp only [Act.put]
        refine wpList_nil ?_
        go_wp2_with fail
        go_roundw
        case rel => exact ⟨j + 1, by omega, by go_num, HMU.out, HB8.out⟩
        case measure => simp [intOf]; omega
    · have hjl : j = L.length := by omega
      subst hjl
      have k3 : ¬ ((L.length : Int) < (L.length : Int)) := by omega
      have hmf := HM.out
      rw [List.take_length] at hmf
      have HMF := Lib.hid hmf
      clear hlt hmf
      go_wp2_with fail
      go_ret
      exact ⟨by rw [← HR.out]; rfl, by rw [← HR.out]; exact HMF.out, HB.out⟩
end Go.Proofs.YtmjonlffhhehjaaGreatDoor
/- Contract: chunk.Good. Condition: fewer than 10^12 bytes; the sums' tables are laid. -/
namespace Go.Proofs.YtmjonlffhhehjaaGreatDoor
open Go.RowKit
/-- Is a piece what it says? -/
def goodPc (p : Pc) : Bool := decide (1 ≤ p.2.2.length) && decide (p.2.2.length ≤ 128) && decide (shaU p.2.2 = p.1)
theorem gdSumP : Tryz.prog.eqGuardType Tryz.prog.depth 31 = false := by kernel_rfl
set_option maxHeartbeats 4000000 in
set_option maxRecDepth 100000 in
theorem pgood_any (p : Pc) (w : World) (hb : Bs w p.2.1 p.2.2) (hn : p.2.2.length < 1000000000000) (hL : Laid w) :
    Calls Tryz.prog 114 #[.agg (encP p).toArray] w fun e w' => e = .returned (.bool (goodPc p)) ∧ Below w.heap.size w w' := by
  obtain ⟨s, v, x⟩ := p
  obtain ⟨q, c, hv, hc, hq, hs⟩ := hb
  simp only [] at hv hc hs hn
  subst hv
  have HB0 := Lib.hid ((Below.refl w.heap.size w).alloc (Nat.le_refl _) (.cells (encP (s, .slice q x.length c, x)).toArray 87))
  have HAS : Hid (Has (w.alloc (.cells (encP (s, .slice q x.length c, x)).toArray 87)) w.heap.size 87 (encP (s, .slice q x.length c, x))) := Lib.hid (Has.made' w _ _ _ rfl)
  have HBS : Hid (Bs w (.slice q x.length c) x) := Lib.hid ⟨q, c, rfl, hc, hq, hs⟩
  have HL := Lib.hid (hL.keep HB0.out hL.size)
  have HSZ := Lib.hid hL.size
  clear hs hL hc hq
  go_enter Tryz.func114, Tryz.ntmps114
  go_upto_region 1 with fail
  have HC0 : Hid ((encP (s, .slice q x.length c, x))[32]? = some (.slice q x.length c)) := Lib.hid (encP_b (s, .slice q x.length c, x))
  have HCS : Hid (∀ j u, (encU s)[j]? = some u → (encP (s, .slice q x.length c, x))[j]? = some u) := Lib.hid (fun j u h => encP_su (p := (s, .slice q x.length c, x)) h)
  have HBS0 := Lib.hid (HBS.out.keep HB0.out)
  have HE := Lib.hid (⟨rfl, rfl⟩ : (encP (s, .slice q x.length c, x)).length = (encP (s, .slice q x.length c, x)).length ∧ True = True)
  clear HE
  generalize hw0 : w.alloc (.cells (encP (s, .slice q x.length c, x)).toArray 87) = w0 at *
  clear hw0
  have HG := Lib.hid HAS.out.lt
  obtain ⟨g, hg⟩ : ∃ g, g = w.heap.size := ⟨_, rfl⟩
  rw [← hg] at HAS HG ⊢
  have HGE := Lib.hid hg
  clear hg
  by_cases h1 : 1 ≤ x.length
  · have k1 : (1 : Int) ≤ (x.length : Int) := by omega
    by_cases h2 : x.length ≤ 128
    · have k2 : (x.length : Int) ≤ 128 := by omega
      have HR : Hid (goodPc (s, .slice q x.length c, x) = decide (shaU x = s)) := Lib.hid (by unfold goodPc; rw [decide_eq_true h1, decide_eq_true h2]; rfl)
      refine wp_region_org [(0, true), (1, true), (2, true), (3, true), (4, true), (5, true), (6, true), (7, true), (8, true), (9, true), (10, true), (11, true), (12, true), (15, true), (16, true), (13, false), (14, false), (17, true), (18, true), (19, true)] (by kernel_rfl) (by kernel_rfl) (by kernel_rfl) ?_
      have HB1 : Hid (Below w.heap.size w w0.drew) := Lib.hid HB0.out.drew
      have HASD : Hid (Has w0.drew g 87 (encP (s, .slice q x.length c, x))) := Lib.hid HAS.out
      have HLD : Hid (Laid w0.drew) := Lib.hid (HL.out.keep ((Below.refl w0.heap.size w0).drew) (by have := HSZ.out; have := HB0.out.size; omega))
      have HBSD : Hid (Bs w0.drew (.slice q x.length c) x) := Lib.hid HBS0.out
      clear HAS HL HBS0 HBS HB0
      generalize w0.drew = wd at *
      have HC32 : Hid (∀ w', Ext wd w' → w'.cell? ⟨g, 32, none⟩ = some (.slice q x.length c)) := Lib.hid (fun w' hv => (HASD.out.keep hv HASD.out.lt).cellv HC0.out)
      have HCU : Hid (∀ w', Ext wd w' → ∀ j u, (encU s)[j]? = some u → w'.cell? ((⟨g, 0, none⟩ : Addr).add j) = some u) := Lib.hid (fun w' hv j u hu => by rw [add_lit', Nat.zero_add]; exact (HASD.out.keep hv HASD.out.lt).cellv (HCS.out j u hu))
      clear HASD HC0 HCS
      simp only [pickOrs, List.getElem?_cons_zero, List.getElem?_cons_succ]
      refine org_pure (v := ?_) (by kernel_rfl) ?_ ?_
      rotate_left
      · intro w' hv; clear hv; go_simp; try with_reducible rfl
      try simp only [Act.put, List.setIfInBounds_toArray, List.set_cons_zero, List.set_cons_succ]
      refine org_pure (v := ?_) (by kernel_rfl) ?_ ?_
      rotate_left
      · intro w' hv; have c32 := HC32.out _ hv; clear hv; go_simp; try with_reducible rfl
      try simp only [Act.put, List.setIfInBounds_toArray, List.set_cons_zero, List.set_cons_succ]
      refine org_pure (v := ?_) (by kernel_rfl) ?_ ?_
      rotate_left
      · intro w' hv; clear hv; go_simp; try with_reducible rfl
      try simp only [Act.put, List.setIfInBounds_toArray, List.set_cons_zero, List.set_cons_succ]
      refine org_pure (v := ?_) (by kernel_rfl) ?_ ?_
      rotate_left
      · intro w' hv; clear hv; go_simp; try with_reducible rfl
      try simp only [Act.put, List.setIfInBounds_toArray, List.set_cons_zero, List.set_cons_succ]
      refine org_pure (v := ?_) (by kernel_rfl) ?_ ?_
      rotate_left
      · intro w' hv; clear hv; go_simp; try with_reducible rfl
      try simp only [Act.put, List.setIfInBounds_toArray, List.set_cons_zero, List.set_cons_succ]
      refine org_pure (v := ?_) (by kernel_rfl) ?_ ?_
      rotate_left
      · intro w' hv; clear hv; go_simp; try with_reducible rfl
      try simp only [Act.put, List.setIfInBounds_toArray, List.set_cons_zero, List.set_cons_succ]
      refine org_pure (v := ?_) (by kernel_rfl) ?_ ?_
      rotate_left
      · intro w' hv; have c32 := HC32.out _ hv; clear hv; go_simp; try with_reducible rfl
      try simp only [Act.put, List.setIfInBounds_toArray, List.set_cons_zero, List.set_cons_succ]
      refine org_pure (v := ?_) (by kernel_rfl) ?_ ?_
      rotate_left
      · intro w' hv; clear hv; go_simp; try with_reducible rfl
      try simp only [Act.put, List.setIfInBounds_toArray, List.set_cons_zero, List.set_cons_succ]
      refine org_pure (v := ?_) (by kernel_rfl) ?_ ?_
      rotate_left
      · intro w' hv; clear hv; go_simp; try with_reducible rfl
      try simp only [Act.put, List.setIfInBounds_toArray, List.set_cons_zero, List.set_cons_succ]
      refine org_pure (v := ?_) (by kernel_rfl) ?_ ?_
      rotate_left
      · intro w' hv; clear hv; go_simp; try with_reducible rfl
      try simp only [Act.put, List.setIfInBounds_toArray, List.set_cons_zero, List.set_cons_succ]
      refine org_pure (v := ?_) (by kernel_rfl) ?_ ?_
      rotate_left
      · intro w' hv; clear hv; go_simp; try with_reducible rfl
      try simp only [Act.put, List.setIfInBounds_toArray, List.set_cons_zero, List.set_cons_succ]
      refine org_pure (v := ?_) (by kernel_rfl) ?_ ?_
      rotate_left
      · intro w' hv; clear hv; go_simp; try with_reducible rfl
      try simp only [Act.put, List.setIfInBounds_toArray, List.set_cons_zero, List.set_cons_succ]
      refine org_pure (v := ?_) (by kernel_rfl) ?_ ?_
      rotate_left
      · intro w' hv; have c32 := HC32.out _ hv; clear hv; go_simp; try with_reducible rfl
      try simp only [Act.put, List.setIfInBounds_toArray, List.set_cons_zero, List.set_cons_succ]
      refine org_pure (v := ?_) (by kernel_rfl) ?_ ?_
      rotate_left
      · intro w' hv; clear hv; go_simp; try with_reducible rfl
      try simp only [Act.put, List.setIfInBounds_toArray, List.set_cons_zero, List.set_cons_succ]
      refine org_pure (by kernel_rfl) (fun w' hv => load_su 31 (.tmp 18) rfl ⟨g, 0, none⟩ rfl elSum.2.1 szSum s (HCU.out _ hv)) ?_
      try simp only [Act.put, List.setIfInBounds_toArray, List.set_cons_zero, List.set_cons_succ]
      refine org_step (by kernel_rfl) (fun K hK => wp_one_bs (.tmp 15) rfl q x.length c rfl (hK _ _ ⟨(Below.refl _ _).alloc (Nat.le_refl _) _, ?_⟩))
      try simp only [Act.put, List.setIfInBounds_toArray, List.set_cons_zero, List.set_cons_succ]
      have HOF := Lib.hid (of_one HBSD.out (by omega) HLD.out)
      refine org_step (by kernel_rfl) (fun K hK => ?_)
      go_wp2_with fail
      refine Calls.mono HOF.out ?_
      rintro e wx ⟨rfl, hb, hb2⟩
      have HE := Lib.hid hb2
      refine hK _ _ ⟨hb, ?_⟩
      clear hK hb hb2
      try simp only [Act.put, List.setIfInBounds_toArray, List.set_cons_zero, List.set_cons_succ]
      refine org_pure (by kernel_rfl) (fun w' hv => eql_su 31 (.tmp 17) (.tmp 19) _ rfl (shaU x) s rfl rfl elSum.2.1 gdSumP) ?_
      try simp only [Act.put, List.setIfInBounds_toArray, List.set_cons_zero, List.set_cons_succ]
      refine org_pure (v := ?_) (by kernel_rfl) ?_ ?_
      rotate_left
      · intro w' hv; clear hv; go_simp; try with_reducible rfl
      try simp only [Act.put, List.setIfInBounds_toArray, List.set_cons_zero, List.set_cons_succ]
      refine org_pure (v := ?_) (by kernel_rfl) ?_ ?_
      rotate_left
      · intro w' hv; clear hv; go_simp; try with_reducible rfl
      try simp only [Act.put, List.setIfInBounds_toArray, List.set_cons_zero, List.set_cons_succ]
      refine org_nil ?_
      go_wp2_with fail
      go_ret
      exact ⟨congrArg (fun b => Ending.returned (.bool b)) HR.out.symm, HB1.out.trans (HE.out.mono HB1.out.size)⟩
    · have k2 : ¬ (x.length : Int) ≤ 128 := by omega
      have HR : Hid (goodPc (s, .slice q x.length c, x) = false) := Lib.hid (by unfold goodPc; rw [decide_eq_false h2, Bool.and_false, Bool.false_and])
      refine wp_region_org [(0, true), (1, true), (2, true), (3, true), (4, true), (5, true), (6, true), (7, true), (8, true), (9, true), (10, true), (11, true), (12, true), (15, true), (16, true), (13, false), (14, false), (17, true), (18, true), (19, true)] (by kernel_rfl) (by kernel_rfl) (by kernel_rfl) ?_
      have HB1 : Hid (Below w.heap.size w w0.drew) := Lib.hid HB0.out.drew
      have HASD : Hid (Has w0.drew g 87 (encP (s, .slice q x.length c, x))) := Lib.hid HAS.out
      have HLD : Hid (Laid w0.drew) := Lib.hid (HL.out.keep ((Below.refl w0.heap.size w0).drew) (by have := HSZ.out; have := HB0.out.size; omega))
      have HBSD : Hid (Bs w0.drew (.slice q x.length c) x) := Lib.hid HBS0.out
      clear HAS HL HBS0 HBS HB0
      generalize w0.drew = wd at *
      have HC32 : Hid (∀ w', Ext wd w' → w'.cell? ⟨g, 32, none⟩ = some (.slice q x.length c)) := Lib.hid (fun w' hv => (HASD.out.keep hv HASD.out.lt).cellv HC0.out)
      have HCU : Hid (∀ w', Ext wd w' → ∀ j u, (encU s)[j]? = some u → w'.cell? ((⟨g, 0, none⟩ : Addr).add j) = some u) := Lib.hid (fun w' hv j u hu => by rw [add_lit', Nat.zero_add]; exact (HASD.out.keep hv HASD.out.lt).cellv (HCS.out j u hu))
      clear HASD HC0 HCS
      simp only [pickOrs, List.getElem?_cons_zero, List.getElem?_cons_succ]
      refine org_pure (v := ?_) (by kernel_rfl) ?_ ?_
      rotate_left
      · intro w' hv; clear hv; go_simp; try with_reducible rfl
      try simp only [Act.put, List.setIfInBounds_toArray, List.set_cons_zero, List.set_cons_succ]
      refine org_pure (v := ?_) (by kernel_rfl) ?_ ?_
      rotate_left
      · intro w' hv; have c32 := HC32.out _ hv; clear hv; go_simp; try with_reducible rfl
      try simp only [Act.put, List.setIfInBounds_toArray, List.set_cons_zero, List.set_cons_succ]
      refine org_pure (v := ?_) (by kernel_rfl) ?_ ?_
      rotate_left
      · intro w' hv; clear hv; go_simp; try with_reducible rfl
      try simp only [Act.put, List.setIfInBounds_toArray, List.set_cons_zero, List.set_cons_succ]
      refine org_pure (v := ?_) (by kernel_rfl) ?_ ?_
      rotate_left
      · intro w' hv; clear hv; go_simp; try with_reducible rfl
      try simp only [Act.put, List.setIfInBounds_toArray, List.set_cons_zero, List.set_cons_succ]
      refine org_pure (v := ?_) (by kernel_rfl) ?_ ?_
      rotate_left
      · intro w' hv; clear hv; go_simp; try with_reducible rfl
      try simp only [Act.put, List.setIfInBounds_toArray, List.set_cons_zero, List.set_cons_succ]
      refine org_pure (v := ?_) (by kernel_rfl) ?_ ?_
      rotate_left
      · intro w' hv; clear hv; go_simp; try with_reducible rfl
      try simp only [Act.put, List.setIfInBounds_toArray, List.set_cons_zero, List.set_cons_succ]
      refine org_pure (v := ?_) (by kernel_rfl) ?_ ?_
      rotate_left
      · intro w' hv; have c32 := HC32.out _ hv; clear hv; go_simp; try with_reducible rfl
      try simp only [Act.put, List.setIfInBounds_toArray, List.set_cons_zero, List.set_cons_succ]
      refine org_pure (v := ?_) (by kernel_rfl) ?_ ?_
      rotate_left
      · intro w' hv; clear hv; go_simp; try with_reducible rfl
      try simp only [Act.put, List.setIfInBounds_toArray, List.set_cons_zero, List.set_cons_succ]
      refine org_pure (v := ?_) (by kernel_rfl) ?_ ?_
      rotate_left
      · intro w' hv; clear hv; go_simp; try with_reducible rfl
      try simp only [Act.put, List.setIfInBounds_toArray, List.set_cons_zero, List.set_cons_succ]
      refine org_pure (v := ?_) (by kernel_rfl) ?_ ?_
      rotate_left
      · intro w' hv; clear hv; go_simp; try with_reducible rfl
      try simp only [Act.put, List.setIfInBounds_toArray, List.set_cons_zero, List.set_cons_succ]
      refine org_pure (v := ?_) (by kernel_rfl) ?_ ?_
      rotate_left
      · intro w' hv; clear hv; go_simp; try with_reducible rfl
      try simp only [Act.put, List.setIfInBounds_toArray, List.set_cons_zero, List.set_cons_succ]
      refine org_skip (by kernel_rfl) ?_
      try simp only [Act.put, List.setIfInBounds_toArray, List.set_cons_zero, List.set_cons_succ]
      refine org_skip (by kernel_rfl) ?_
      try simp only [Act.put, List.setIfInBounds_toArray, List.set_cons_zero, List.set_cons_succ]
      refine org_skip (by kernel_rfl) ?_
      try simp only [Act.put, List.setIfInBounds_toArray, List.set_cons_zero, List.set_cons_succ]
      refine org_skip (by kernel_rfl) ?_
      try simp only [Act.put, List.setIfInBounds_toArray, List.set_cons_zero, List.set_cons_succ]
      refine org_pass (by kernel_rfl) ?_
      try simp only [Act.put, List.setIfInBounds_toArray, List.set_cons_zero, List.set_cons_succ]
      refine org_pass (by kernel_rfl) ?_
      try simp only [Act.put, List.setIfInBounds_toArray, List.set_cons_zero, List.set_cons_succ]
      refine org_skip (by kernel_rfl) ?_
      try simp only [Act.put, List.setIfInBounds_toArray, List.set_cons_zero, List.set_cons_succ]
      refine org_pure (v := ?_) (by kernel_rfl) ?_ ?_
      rotate_left
      · intro w' hv; clear hv; go_simp; try with_reducible rfl
      try simp only [Act.put, List.setIfInBounds_toArray, List.set_cons_zero, List.set_cons_succ]
      refine org_pure (v := ?_) (by kernel_rfl) ?_ ?_
      rotate_left
      · intro w' hv; clear hv; go_simp; try with_reducible rfl
      try simp only [Act.put, List.setIfInBounds_toArray, List.set_cons_zero, List.set_cons_succ]
      refine org_nil ?_
      go_wp2_with fail
      go_ret
      exact ⟨congrArg (fun b => Ending.returned (.bool b)) HR.out.symm, HB1.out⟩
  · have k1 : ¬ (1 : Int) ≤ (x.length : Int) := by omega
    have HR : Hid (goodPc (s, .slice q x.length c, x) = false) := Lib.hid (by unfold goodPc; rw [decide_eq_false h1, Bool.false_and, Bool.false_and])
    refine wp_region_org [(0, true), (1, true), (2, true), (3, true), (4, true), (5, true), (6, true), (7, true), (8, true), (9, true), (10, true), (11, true), (12, true), (15, true), (16, true), (13, false), (14, false), (17, true), (18, true), (19, true)] (by kernel_rfl) (by kernel_rfl) (by kernel_rfl) ?_
    have HB1 : Hid (Below w.heap.size w w0.drew) := Lib.hid HB0.out.drew
    have HASD : Hid (Has w0.drew g 87 (encP (s, .slice q x.length c, x))) := Lib.hid HAS.out
    have HLD : Hid (Laid w0.drew) := Lib.hid (HL.out.keep ((Below.refl w0.heap.size w0).drew) (by have := HSZ.out; have := HB0.out.size; omega))
    have HBSD : Hid (Bs w0.drew (.slice q x.length c) x) := Lib.hid HBS0.out
    clear HAS HL HBS0 HBS HB0
    generalize w0.drew = wd at *
    have HC32 : Hid (∀ w', Ext wd w' → w'.cell? ⟨g, 32, none⟩ = some (.slice q x.length c)) := Lib.hid (fun w' hv => (HASD.out.keep hv HASD.out.lt).cellv HC0.out)
    have HCU : Hid (∀ w', Ext wd w' → ∀ j u, (encU s)[j]? = some u → w'.cell? ((⟨g, 0, none⟩ : Addr).add j) = some u) := Lib.hid (fun w' hv j u hu => by rw [add_lit', Nat.zero_add]; exact (HASD.out.keep hv HASD.out.lt).cellv (HCS.out j u hu))
    clear HASD HC0 HCS
    simp only [pickOrs, List.getElem?_cons_zero, List.getElem?_cons_succ]
    refine org_pure (v := ?_) (by kernel_rfl) ?_ ?_
    rotate_left
    · intro w' hv; clear hv; go_simp; try with_reducible rfl
    try simp only [Act.put, List.setIfInBounds_toArray, List.set_cons_zero, List.set_cons_succ]
    refine org_pure (v := ?_) (by kernel_rfl) ?_ ?_
    rotate_left
    · intro w' hv; have c32 := HC32.out _ hv; clear hv; go_simp; try with_reducible rfl
    try simp only [Act.put, List.setIfInBounds_toArray, List.set_cons_zero, List.set_cons_succ]
    refine org_pure (v := ?_) (by kernel_rfl) ?_ ?_
    rotate_left
    · intro w' hv; clear hv; go_simp; try with_reducible rfl
    try simp only [Act.put, List.setIfInBounds_toArray, List.set_cons_zero, List.set_cons_succ]
    refine org_pure (v := ?_) (by kernel_rfl) ?_ ?_
    rotate_left
    · intro w' hv; clear hv; go_simp; try with_reducible rfl
    try simp only [Act.put, List.setIfInBounds_toArray, List.set_cons_zero, List.set_cons_succ]
    refine org_pure (v := ?_) (by kernel_rfl) ?_ ?_
    rotate_left
    · intro w' hv; clear hv; go_simp; try with_reducible rfl
    try simp only [Act.put, List.setIfInBounds_toArray, List.set_cons_zero, List.set_cons_succ]
    refine org_skip (by kernel_rfl) ?_
    try simp only [Act.put, List.setIfInBounds_toArray, List.set_cons_zero, List.set_cons_succ]
    refine org_skip (by kernel_rfl) ?_
    try simp only [Act.put, List.setIfInBounds_toArray, List.set_cons_zero, List.set_cons_succ]
    refine org_skip (by kernel_rfl) ?_
    try simp only [Act.put, List.setIfInBounds_toArray, List.set_cons_zero, List.set_cons_succ]
    refine org_skip (by kernel_rfl) ?_
    try simp only [Act.put, List.setIfInBounds_toArray, List.set_cons_zero, List.set_cons_succ]
    refine org_pure (v := ?_) (by kernel_rfl) ?_ ?_
    rotate_left
    · intro w' hv; clear hv; go_simp; try with_reducible rfl
    try simp only [Act.put, List.setIfInBounds_toArray, List.set_cons_zero, List.set_cons_succ]
    refine org_pure (v := ?_) (by kernel_rfl) ?_ ?_
    rotate_left
    · intro w' hv; clear hv; go_simp; try with_reducible rfl
    try simp only [Act.put, List.setIfInBounds_toArray, List.set_cons_zero, List.set_cons_succ]
    refine org_skip (by kernel_rfl) ?_
    try simp only [Act.put, List.setIfInBounds_toArray, List.set_cons_zero, List.set_cons_succ]
    refine org_skip (by kernel_rfl) ?_
    try simp only [Act.put, List.setIfInBounds_toArray, List.set_cons_zero, List.set_cons_succ]
    refine org_skip (by kernel_rfl) ?_
    try simp only [Act.put, List.setIfInBounds_toArray, List.set_cons_zero, List.set_cons_succ]
    refine org_skip (by kernel_rfl) ?_
    try simp only [Act.put, List.setIfInBounds_toArray, List.set_cons_zero, List.set_cons_succ]
    refine org_pass (by kernel_rfl) ?_
    try simp only [Act.put, List.setIfInBounds_toArray, List.set_cons_zero, List.set_cons_succ]
    refine org_pass (by kernel_rfl) ?_
    try simp only [Act.put, List.setIfInBounds_toArray, List.set_cons_zero, List.set_cons_succ]
    refine org_skip (by kernel_rfl) ?_
    try simp only [Act.put, List.setIfInBounds_toArray, List.set_cons_zero, List.set_cons_succ]
    refine org_pure (v := ?_) (by kernel_rfl) ?_ ?_
    rotate_left
    · intro w' hv; clear hv; go_simp; try with_reducible rfl
    try simp only [Act.put, List.setIfInBounds_toArray, List.set_cons_zero, List.set_cons_succ]
    refine org_pure (v := ?_) (by kernel_rfl) ?_ ?_
    rotate_left
    · intro w' hv; clear hv; go_simp; try with_reducible rfl
    try simp only [Act.put, List.setIfInBounds_toArray, List.set_cons_zero, List.set_cons_succ]
    refine org_nil ?_
    go_wp2_with fail
    go_ret
    exact ⟨congrArg (fun b => Ending.returned (.bool b)) HR.out.symm, HB1.out⟩
end Go.Proofs.YtmjonlffhhehjaaGreatDoor
/- Contract: chunk.Join: pieces put together. Conditions: at most a million names and pieces, no piece of more than a million bytes; the sums' tables are laid. -/
namespace Go.Proofs.YtmjonlffhhehjaaGreatDoor
open Go.RowKit
/-- The bytes of each name's piece, one behind the other; or what is wrong. -/
def joinA (L : List Pc) : List Su → List (BitVec 8) → List (BitVec 8) × Nat
  | [], acc => (acc, 0)
  | s :: N, acc => match firstU L s with
    | none => ([], 5)
    | some i => match L[i]? with
      | none => ([], 5)
      | some p => if goodPc p then joinA L N (acc ++ p.2.2) else ([], 11)
theorem joinA_nil (L : List Pc) (acc : List (BitVec 8)) : joinA L [] acc = (acc, 0) := rfl
theorem joinA_none {L : List Pc} {s : Su} {N : List Su} {acc : List (BitVec 8)} (h : firstU L s = none) : joinA L (s :: N) acc = ([], 5) := by
  unfold joinA; rw [h]
theorem joinA_bad {L : List Pc} {s : Su} {N : List Su} {acc : List (BitVec 8)} {i : Nat} (h : firstU L s = some i) (hi : i < L.length) (hg : goodPc L[i] = false) : joinA L (s :: N) acc = ([], 11) := by
  rw [joinA]; simp only [h, List.getElem?_eq_getElem hi]; rw [if_neg (by rw [hg]; simp)]
theorem joinA_good {L : List Pc} {s : Su} {N : List Su} {acc : List (BitVec 8)} {i : Nat} (h : firstU L s = some i) (hi : i < L.length) (hg : goodPc L[i] = true) : joinA L (s :: N) acc = joinA L N (acc ++ L[i].2.2) := by
  rw [joinA]; simp only [h, List.getElem?_eq_getElem hi]; rw [if_pos hg]
theorem good_len {p : Pc} (h : goodPc p = true) : p.2.2.length ≤ 128 := by
  unfold goodPc at h
  rw [Bool.and_eq_true, Bool.and_eq_true, decide_eq_true_iff, decide_eq_true_iff] at h
  exact h.1.2
set_option maxHeartbeats 8000000 in
set_option maxRecDepth 100000 in
theorem join_any (N : List Su) (L : List Pc) (qn ql : Option Addr) (cn cl : Nat) (w : World) (hn : N.length ≤ 1000000) (hm : L.length ≤ 1000000) (hs : Sees w w.heap.size qn (rowU N)) (hl : Sees w w.heap.size ql (rowP L)) (hb : Pcb w L) (hx : ∀ p ∈ L, p.2.2.length ≤ 1000000) (hL : Laid w) :
    Calls Tryz.prog 81 #[.slice qn N.length cn, .slice ql L.length cl] w fun e w' => (∃ v, e = .returned (.tuple #[v, .int .i64 ((joinA L N []).2 : Nat)]) ∧ Bs w' v (joinA L N []).1) ∧ Below w.heap.size w w' := by
  have HF := Lib.hid (firsts_any L ql cl w hm hl hb)
  have HJ0 : Hid (joinA L N [] = joinA L (N.drop 0) []) := Lib.hid (by rw [List.drop_zero])
  obtain ⟨J, hJ⟩ : ∃ J, J = joinA L N [] := ⟨_, rfl⟩
  rw [← hJ] at HJ0 ⊢
  clear hJ
  have HS := Lib.hid hs
  have HLP := Lib.hid hl
  have HPB := Lib.hid hb
  have HX := Lib.hid hx
  have HL := Lib.hid hL
  have HSZ := Lib.hid hL.size
  clear hs hl hb hx hL
  go_enter Tryz.func81, Tryz.ntmps81
  go_upto_region 3 with ((with_reducible refine HF.out.mono ?_); rintro e w0 ⟨rfl, h1, h2⟩; have HM0 := Lib.hid h1; have HB0 := Lib.hid h2; clear h1 h2)
  clear HF
  obtain ⟨r, hr⟩ : ∃ r, r = w.heap.size := ⟨_, rfl⟩
  rw [← hr] at HM0 ⊢
  have HR := Lib.hid hr
  clear hr
  go_upto_region 4 with fail
  have HNIL := Lib.hid (World.ownsRow_nil w0 w0.heap.size 5 1)
  go_loopw [7, 16] (fun v vi wr => ∃ (j : Nat) (acc : List (BitVec 8)), j ≤ N.length ∧ vi = .int .i64 j ∧ acc.length ≤ 128 * j ∧ J = joinA L (N.drop j) acc ∧ wr.ownsRow w0.heap.size 5 1 v acc.length (acc.map u8v) ∧ Below w0.heap.size w0 wr) (fun _ vi _ => N.length - (intOf vi).toNat)
  case atStart => exact ⟨0, [], by omega, rfl, by simp, HJ0.out, HNIL.out, Below.refl _ _⟩
  case round =>
    clear HJ0 HNIL
    rename_i wr
    obtain ⟨j, acc, hj, rfl, hal, hJ, hrow, hB⟩ := hrel
    have HROW := Lib.hid hrow
    have HB := Lib.hid hB
    have HJ := Lib.hid hJ
    have HAL := Lib.hid hal
    clear hrow hB hJ hal
    have HBW := Lib.hid (HB0.out.trans (HB.out.mono HB0.out.size))
    by_cases hlt : j < N.length
    · obtain ⟨an, rfl, _, hcn⟩ := Ss.el (HS.out.keep HBW.out) hlt
      have hdr : N.drop j = N[j] :: N.drop (j + 1) := List.drop_eq_getElem_cons hlt
      obtain ⟨s, hsx⟩ : ∃ s, s = N[j] := ⟨_, rfl⟩
      rw [← hsx] at hcn hdr
      rw [hdr] at HJ
      have HCN := Lib.hid hcn
      clear hcn hsx hdr
      have hjj : (j : Int) < (N.length : Int) := by omega
      have hll : j < 1000000 := by omega
      go_upto_region 5 with fail
      refine wp_region_lit ?_
      try simp only [Act.put, List.setIfInBounds_toArray, List.set_cons_zero, List.set_cons_succ]
      refine lp_pure (v := ?_) (by kernel_rfl) ?_ ?_
      rotate_left
      · go_simp; try with_reducible rfl
      try simp only [Act.put, List.setIfInBounds_toArray, List.set_cons_zero, List.set_cons_succ]
      refine lp_pure (by kernel_rfl) (load_su 31 (.tmp 18) rfl (an.add (j * 32)) rfl elSum.2.1 szSum s (HCN.out _ (Below.refl _ _))) ?_
      try simp only [Act.put, List.setIfInBounds_toArray, List.set_cons_zero, List.set_cons_succ]
      refine wp_copy_su rfl 31 (zSu_run wr) szSum rfl rfl (.tmp 9) (.tmp 19) rfl s rfl rfl ?_
      intro w7 h1 h2
      have HAS := Lib.hid h1
      have HB7 := Lib.hid h2
      clear h1 h2
      have HB77 := Lib.hid (HB.out.trans (HB7.out.mono HB.out.size))
      have HM7 := Lib.hid (HM0.out.keep HB77.out HM0.out.lt)
      have HROW7 := Lib.hid (own_keep HROW.out HB7.out (fun k hk => hk))
      have hlk := lookup_u HM7.out s
      unfold aggU at hlk
      generalize wr.heap.size = g at *
      try simp only [Act.put, List.setIfInBounds_toArray, List.set_cons_zero, List.set_cons_succ]
      refine wpList_nil ?_
      go_upto_region 6 with fail
      refine wp_region_lit ?_
      try simp only [Act.put, List.setIfInBounds_toArray, List.set_cons_zero, List.set_cons_succ]
      refine lp_pure (v := ?_) (by kernel_rfl) ?_ ?_
      rotate_left
      · go_simp; try with_reducible rfl
      try simp only [Act.put, List.setIfInBounds_toArray, List.set_cons_zero, List.set_cons_succ]
      refine lp_pure (by kernel_rfl) (load_su 31 (.tmp 9) rfl ⟨g, 0, none⟩ rfl elSum.2.1 szSum s (fun j u hu => by rw [add_lit', Nat.zero_add]; exact HAS.out.cellv hu)) ?_
      try simp only [Act.put, List.setIfInBounds_toArray, List.set_cons_zero, List.set_cons_succ]
      refine lp_pure (v := ?_) (by kernel_rfl) ?_ ?_
      rotate_left
      · go_simp; try with_reducible rfl
      try simp only [Act.put, List.setIfInBounds_toArray, List.set_cons_zero, List.set_cons_succ]
      refine lp_pure (v := ?_) (by kernel_rfl) ?_ ?_
      rotate_left
      · go_simp; try with_reducible rfl
      try simp only [Act.put, List.setIfInBounds_toArray, List.set_cons_zero, List.set_cons_succ]
      refine lp_pure (v := ?_) (by kernel_rfl) ?_ ?_
      rotate_left
      · go_simp; try with_reducible rfl
      try simp only [Act.put, List.setIfInBounds_toArray, List.set_cons_zero, List.set_cons_succ]
      refine lp_pure (v := ?_) (by kernel_rfl) ?_ ?_
      rotate_left
      · go_simp; try with_reducible rfl
      try simp only [Act.put, List.setIfInBounds_toArray, List.set_cons_zero, List.set_cons_succ]
      refine lp_pure (v := ?_) (by kernel_rfl) ?_ ?_
      rotate_left
      · go_simp; try with_reducible rfl
      try simp only [Act.put, List.setIfInBounds_toArray, List.set_cons_zero, List.set_cons_succ]
      refine lp_pure (v := ?_) (by kernel_rfl) ?_ ?_
      rotate_left
      · go_simp; try with_reducible rfl
      try simp only [Act.put, List.setIfInBounds_toArray, List.set_cons_zero, List.set_cons_succ]
      refine wpList_nil ?_
      clear hlk
      cases hf : firstU L s with
      | none =>
        simp only [Option.isSome_none]
        have HE : Hid (J = ([], 5)) := Lib.hid (HJ.out.trans (joinA_none hf))
        clear hf
        go_wp2_with fail
        (try simp only [Exit.inBlock, Exit.then]); refine bodyPost_ret (results_tmp2 rfl _ _ _) rfl ?_
        rw [HE.out]
        exact ⟨⟨_, rfl, Bs.nil _⟩, HB0.out.trans (HB77.out.mono HB0.out.size)⟩
      | some m =>
        simp only [Option.isSome_some, Option.getD_some]
        obtain ⟨hml, hms⟩ := firstU_lt hf
        have HBL := Lib.hid (HB0.out.trans (HB77.out.mono HB0.out.size))
        obtain ⟨al, rfl, _, hcp⟩ := Sees.pc (HLP.out.keep HBL.out) hml
        have hmem : L[m] ∈ L := List.getElem_mem hml
        have hbs := (HPB.out _ hmem).keep HBL.out
        have hxl := HX.out _ hmem
        have HGT : Hid (goodPc L[m] = true → J = joinA L (N.drop (j + 1)) (acc ++ L[m].2.2) ∧ L[m].2.2.length ≤ 128) := Lib.hid (fun hg => ⟨HJ.out.trans (joinA_good hf hml hg), good_len hg⟩)
        have HGF : Hid (goodPc L[m] = false → J = ([], 11)) := Lib.hid (fun hg => HJ.out.trans (joinA_bad hf hml hg))
        obtain ⟨p, hp⟩ : ∃ p, p = L[m] := ⟨_, rfl⟩
        rw [← hp] at hcp hbs hxl HGT HGF
        have HCP := Lib.hid hcp
        have HBS := Lib.hid hbs
        have HGD := Lib.hid (pgood_any p w7 hbs (by omega) (HL.out.keep HBL.out HSZ.out))
        have km : (m : Int) < (L.length : Int) := by omega
        clear hcp hbs hxl hp hmem hms hf
        go_upto_region 9 with fail
        refine wp_region_lit ?_
        try simp only [Act.put, List.setIfInBounds_toArray, List.set_cons_zero, List.set_cons_succ]
        refine lp_pure (v := ?_) (by kernel_rfl) ?_ ?_
        rotate_left
        · go_simp; try with_reducible rfl
        try simp only [Act.put, List.setIfInBounds_toArray, List.set_cons_zero, List.set_cons_succ]
        refine lp_pure (v := ?_) (by kernel_rfl) ?_ ?_
        rotate_left
        · go_simp; try with_reducible rfl
        try simp only [Act.put, List.setIfInBounds_toArray, List.set_cons_zero, List.set_cons_succ]
        refine lp_pure (v := ?_) (by kernel_rfl) ?_ ?_
        rotate_left
        · go_simp; try with_reducible rfl
        try simp only [Act.put, List.setIfInBounds_toArray, List.set_cons_zero, List.set_cons_succ]
        refine lp_pure (by kernel_rfl) (load_pc 42 87 elPc (.tmp 30) rfl (al.add (m * 33)) rfl p (HCP.out _ (Below.refl _ _))) ?_
        try simp only [Act.put, List.setIfInBounds_toArray, List.set_cons_zero, List.set_cons_succ]
        refine lp_step (by kernel_rfl) (fun K hK => ?_)
        go_wp2_with fail
        refine Calls.mono (HGD.out) ?_
        rintro e w8 ⟨rfl, hB8⟩
        have HB8 := Lib.hid hB8
        have HBE := Lib.hid (HBL.out.trans (hB8.mono HBL.out.size))
        clear hB8
        refine hK _ _ ?_
        clear hK
        try simp only [Act.put, List.setIfInBounds_toArray, List.set_cons_zero, List.set_cons_succ]
        refine lp_pure (v := ?_) (by kernel_rfl) ?_ ?_
        rotate_left
        · go_simp; try with_reducible rfl
        try simp only [Act.put, List.setIfInBounds_toArray, List.set_cons_zero, List.set_cons_succ]
        refine wpList_nil ?_
        cases hg : goodPc p with
        | false =>
          have HE := Lib.hid (HGF.out hg)
          clear hg
          go_wp2_with fail
          (try simp only [Exit.inBlock, Exit.then]); refine bodyPost_ret (results_tmp2 rfl _ _ _) rfl ?_
          rw [HE.out]
          exact ⟨⟨_, rfl, Bs.nil _⟩, HBE.out⟩
        | true =>
          obtain ⟨hE, hpl⟩ := HGT.out hg
          have HE := Lib.hid hE
          have HPL := Lib.hid hpl
          have HROW8 := Lib.hid (own_keep HROW7.out HB8.out (fun k hk => hk))
          obtain ⟨qp, cp, hpv, hcp1, hqp, hsp⟩ := HBS.out.keep HB8.out
          have c32 := HCP.out w8 (HB8.out.mono HBL.out.size) 32 _ (encP_b p)
          rw [hpv] at c32
          have e32 : (⟨(al.add (m * 33)).block, (al.add (m * 33)).off + 32, none⟩ : Addr) = (al.add (m * 33)).add 32 := rfl
          rw [← e32] at c32
          have HQP := Lib.hid hqp
          have HSP := Lib.hid hsp
          have HLE : Hid (acc.length + p.2.2.length ≤ 140737488355328) := Lib.hid (by have := HAL.out; omega)
          have HBZ : Hid (w0.heap.size ≤ w8.heap.size) := Lib.hid (Nat.le_trans HB77.out.size HB8.out.size)
          clear hg hE hpl hpv hcp1 hqp hsp e32
          go_wp2_with (refine wpList_append_sees rfl (.tmp 34) (.tmp 39) rfl w0.heap.size _ acc.length (acc.map u8v) rfl HROW8.out qp p.2.2 cp w8.heap.size rfl HQP.out HSP.out HLE.out HBZ.out ?_; intro v9 w9 h1 h2; have HROW9 := Lib.hid h1; have HB9 := Lib.hid h2; clear h1 h2)
          go_roundw
          case rel =>
            have hr := HROW9.out
            rw [← List.length_append, ← List.map_append] at hr
            exact ⟨j + 1, acc ++ p.2.2, by omega, by go_num, by rw [List.length_append]; have h1 := HAL.out; have h2 := HPL.out; omega, HE.out, hr, (HB77.out.trans (HB8.out.mono HB77.out.size)).trans HB9.out⟩
          case measure => simp [intOf]; omega
    · have hjl : j = N.length := by omega
      subst hjl
      have k3 : ¬ ((N.length : Int) < (N.length : Int)) := by omega
      have hj0 := HJ.out
      rw [List.drop_length, joinA_nil] at hj0
      have HE := Lib.hid hj0
      have HBO := Lib.hid (Bs.own HROW.out)
      clear hlt hj0
      go_wp2_with fail
      (try simp only [Exit.inBlock, Exit.then]); refine bodyPost_ret (results_tmp2 rfl _ _ _) rfl ?_
      rw [HE.out]
      exact ⟨⟨_, rfl, HBO.out⟩, HBW.out⟩
end Go.Proofs.YtmjonlffhhehjaaGreatDoor
/- A region that draws its order, walked by state and not by path: an invariant J of what is listed, the slots and the memory, which each operation that may come up keeps (one proof an operation, whatever came before it); the states lie level by level, and the kernel checks that each one's ready operations are foreseen and lead to the next level. No condition. -/
namespace Go.Proofs.YtmjonlffhhehjaaGreatDoor
section
variable {P : Program} {md : Region.Mode} {ops : Array Oper} {Q : Exit → Act → World → Prop} {S : World → Prop}
/-- Each state of a level has something ready; each that is ready is foreseen (C) and leads to a state of the next level. -/
def levelsB (md : Region.Mode) (ops : Array Oper) (C : Nat → Array Bool → Bool) : List (List (Array Bool)) → Bool
  | [] => true
  | [_] => true
  | E :: E' :: r => (E.all fun l => !(Region.ready md ops l).isEmpty && (Region.ready md ops l).all fun j => C j l && E'.contains (l.setIfInBounds j true)) && levelsB md ops C (E' :: r)
theorem wpAnyH_states (C : Nat → Array Bool → Bool) (J : Array Bool → Act → World → Prop) (fuel : Nat) (last : List (Array Bool))
    (hJ : ∀ (l : Array Bool) (a : Act) (w : World) (j : Nat), C j l = true → J l a w → wpOp P ops Q j (fun a' w' => S w' ∧ J (l.setIfInBounds j true) a' w') a w)
    (hF : ∀ l ∈ last, ∀ (a : Act) (w : World), J l a w → wpAnyH P md ops Q S fuel l a w) :
    ∀ (r : List (List (Array Bool))) (E : List (Array Bool)), levelsB md ops C (E :: r ++ [last]) = true → ∀ l ∈ E, ∀ (a : Act) (w : World), J l a w → wpAnyH P md ops Q S (fuel + (r.length + 1)) l a w
  | [], E, hB, l, hl, a, w, h => by
    have hB' : ((E.all fun l => !(Region.ready md ops l).isEmpty && (Region.ready md ops l).all fun j => C j l && last.contains (l.setIfInBounds j true)) && true) = true := hB
    rw [Bool.and_true, List.all_eq_true] at hB'
    have hl' := hB' l hl
    rw [Bool.and_eq_true, List.all_eq_true] at hl'
    refine wpAnyH_all (fuel := fuel) rfl (by intro h0; simp [h0] at hl') (fun j hj => ?_)
    have hj' := hl'.2 j hj
    rw [Bool.and_eq_true] at hj'
    exact wpOp_mono (fun a' w' h' => ⟨h'.1, hF _ (by simpa using hj'.2) a' w' h'.2⟩) (hJ l a w j hj'.1 h)
  | E' :: r, E, hB, l, hl, a, w, h => by
    have hB' : ((E.all fun l => !(Region.ready md ops l).isEmpty && (Region.ready md ops l).all fun j => C j l && E'.contains (l.setIfInBounds j true)) && levelsB md ops C (E' :: r ++ [last])) = true := by
      cases r <;> exact hB
    rw [Bool.and_eq_true, List.all_eq_true] at hB'
    have hl' := hB'.1 l hl
    rw [Bool.and_eq_true, List.all_eq_true] at hl'
    refine wpAnyH_all (fuel := fuel + (r.length + 1)) rfl (by intro h0; simp [h0] at hl') (fun j hj => ?_)
    have hj' := hl'.2 j hj
    rw [Bool.and_eq_true] at hj'
    exact wpOp_mono (fun a' w' h' => ⟨h'.1, wpAnyH_states C J fuel last hJ hF r E' hB'.2 _ (by simpa using hj'.2) a' w' h'.2⟩) (hJ l a w j hj'.1 h)
/-- What is listed behind some operations. -/
def listedAfter : List (Nat × Bool) → Array Bool → Array Bool
  | [], l => l
  | (i, _) :: r, l => listedAfter r (l.setIfInBounds i true)
/-- As wpOrs, with a goal of its own at the end: a stretch of the region in one named order. -/
def wpOrsN (P : Program) (ops : Array Oper) (S : World → Prop) (Q : Exit → Act → World → Prop) (R : Act → World → Prop) : List (Nat × Bool) → Act → World → Prop
  | [], a, w => R a w
  | (i, true) :: r, a, w => ∃ o v, ops[i]? = some o ∧ YieldsIf P ops S o v a ∧ wpOrsN P ops S Q R r (a.put o.dst v) w
  | (i, false) :: r, a, w => wpOp P ops Q i (fun a' w' => S w' ∧ wpOrsN P ops S Q R r a' w') a w
def orsNB (md : Region.Mode) (ops : Array Oper) : List (Nat × Bool) → Array Bool → Bool
  | [], _ => true
  | (i, true) :: r, listed => Region.free md ops listed i && ((Region.ready md ops listed).contains i && orsNB md ops r (listed.setIfInBounds i true))
  | (i, false) :: r, listed => decide (Region.ready md ops listed = [i]) && orsNB md ops r (listed.setIfInBounds i true)
theorem wpAnyH_of_orsN (hs : Region.noSelect ops = true) (hQ : ∀ c a d v w, Q (.panic c) (a.put d v) w → Q (.panic c) a w) (R : Act → World → Prop) (fuel : Nat) :
    ∀ (l : List (Nat × Bool)) (listed : Array Bool) (a : Act) (w : World), orsNB md ops l listed = true → S w → wpOrsN P ops S Q R l a w →
      (∀ a w, S w → R a w → wpAnyH P md ops Q S fuel (listedAfter l listed) a w) → wpAnyH P md ops Q S (fuel + l.length) listed a w
  | [], listed, a, w, _, hS, h, hR => hR a w hS h
  | (i, true) :: r, listed, a, w, hB, hS, h, hR => by
    obtain ⟨o, v, ho, hy, hr⟩ := h
    simp only [orsNB, Bool.and_eq_true] at hB
    exact wpAnyH_take ho hs hB.1 hB.2.1 (fun c a w => hQ c a _ v w) hy hS (wpAnyH_of_orsN hs hQ R fuel r _ _ _ hB.2.2 hS hr hR)
  | (i, false) :: r, listed, a, w, hB, hS, h, hR => by
    simp only [orsNB, Bool.and_eq_true, decide_eq_true_eq] at hB
    refine wpAnyH_all (fuel := fuel + r.length) hB.1 (by simp) (fun j hj => ?_)
    have hj : j = i := by simpa using hj
    subst hj
    exact wpOp_mono (fun a' w' h' => ⟨h'.1, wpAnyH_of_orsN hs hQ R fuel r _ _ _ hB.2 h'.1 h'.2 hR⟩) h
/-- The same with the operations themselves in their places. -/
def wpOrsK (P : Program) (ops : Array Oper) (S : World → Prop) (Q : Exit → Act → World → Prop) (R : Act → World → Prop) : List (Oper × Bool) → Act → World → Prop
  | [], a, w => R a w
  | (o, true) :: r, a, w => ∃ v, YieldsIf P ops S o v a ∧ wpOrsK P ops S Q R r (a.put o.dst v) w
  | (o, false) :: r, a, w => if Region.wanted o (yielded ops a.tmps) then o.wp P a w (fun a' w' => S w' ∧ wpOrsK P ops S Q R r a' w') Q ∨ (o.asks P a w ∧ LetsOut Q) else (S w ∧ wpOrsK P ops S Q R r (a.put o.dst undef) w)
theorem wpOrsN_of_K (R : Act → World → Prop) : ∀ (l : List (Nat × Bool)) (a : Act) (w : World), (l.all fun x => decide (x.1 < ops.size)) = true →
    wpOrsK P ops S Q R (pickOrs ops.toList l) a w → wpOrsN P ops S Q R l a w
  | [], _, _, _, h => h
  | (i, b) :: r, a, w, hl, h => by
    simp only [List.all_cons, Bool.and_eq_true, decide_eq_true_eq] at hl
    have ho : ops.toList[i]? = some ops[i] := by simp [hl.1]
    have ho' : ops[i]? = some ops[i] := by simp [hl.1]
    rw [pickOrs, ho] at h
    cases b with
    | true =>
      obtain ⟨v, hy, hr⟩ := h
      exact ⟨_, v, ho', hy, wpOrsN_of_K R r _ _ hl.2 hr⟩
    | false =>
      show wpOp P ops Q i (fun a' w' => S w' ∧ wpOrsN P ops S Q R r a' w') a w
      have h2 : wpOp P ops Q i (fun a' w' => S w' ∧ wpOrsK P ops S Q R (pickOrs ops.toList r) a' w') a w := by unfold wpOp; rw [ho']; exact h
      exact wpOp_mono (fun a' w' h' => ⟨h'.1, wpOrsN_of_K R r _ _ hl.2 h'.2⟩) h2
theorem orsK_pure {R : Act → World → Prop} {o : Oper} {r : List (Oper × Bool)} {a : Act} {w : World} {v : Value} (hw : Region.wanted o (yielded ops a.tmps) = true)
    (hy : ∀ w', S w' → (execOp a.eval o).run P w' = .ok (.value v) w') (h : wpOrsK P ops S Q R r (a.put o.dst v) w) : wpOrsK P ops S Q R ((o, true) :: r) a w :=
  ⟨v, .inl ⟨hw, hy⟩, h⟩
theorem orsK_step {R : Act → World → Prop} {o : Oper} {r : List (Oper × Bool)} {a : Act} {w : World} (hw : Region.wanted o (yielded ops a.tmps) = true)
    (h : ∀ K : Act → World → Prop, (∀ a w, S w ∧ wpOrsK P ops S Q R r a w → K a w) → o.wp P a w K Q) : wpOrsK P ops S Q R ((o, false) :: r) a w := by
  have := h _ (fun _ _ h => h)
  show if _ then _ else _
  rw [if_pos hw]
  exact .inl this
theorem orsK_nil {R : Act → World → Prop} {a : Act} {w : World} (h : R a w) : wpOrsK P ops S Q R [] a w := h
/-- The beginning: a stretch in one order, then whatever is shown of what is left (by states, or by a further stretch). The region is shown not to panic. -/
theorem wp_region_orsK {lo : List Oper} (S : World → Prop) (R : Act → World → Prop) {id : Nat} {a : Act} {w : World} (l : List (Nat × Bool)) (fuel : Nat) (hm : P.follows .mixedOrders = true) (hs : Region.noSelect lo.toArray = true)
    (hB : (decide (fuel + l.length = lo.toArray.size) && (orsNB .any lo.toArray l (Array.replicate lo.toArray.size false) && l.all fun x => decide (x.1 < lo.toArray.size))) = true)
    (hS : S w.drew) (h : wpOrsK P lo.toArray S (NoPanic Q) R (pickOrs lo l) a w.drew)
    (hR : ∀ a w, S w → R a w → wpAnyH P .any lo.toArray (NoPanic Q) S fuel (listedAfter l (Array.replicate lo.toArray.size false)) a w) : (Code.region id lo.toArray true).wp P Q a w := by
  simp only [Bool.and_eq_true, decide_eq_true_eq] at hB
  refine wp_region_noPanic (wp_region_held_drew hm hS fun hS => ?_)
  have h2 := wpAnyH_of_orsN hs (fun _ _ _ _ _ h => h) R fuel l _ _ _ hB.2.1 hS (wpOrsN_of_K R _ _ _ hB.2.2 h) hR
  rw [hB.1] at h2
  exact h2
/-- A further stretch, from what is listed already. -/
theorem wpAnyH_orsK {lo : List Oper} (R : Act → World → Prop) {a : Act} {w : World} {listed : Array Bool} (l : List (Nat × Bool)) (fuel : Nat) (hs : Region.noSelect lo.toArray = true)
    (hB : (orsNB .any lo.toArray l listed && l.all fun x => decide (x.1 < lo.toArray.size)) = true)
    (hS : S w) (h : wpOrsK P lo.toArray S (NoPanic Q) R (pickOrs lo l) a w)
    (hR : ∀ a w, S w → R a w → wpAnyH P .any lo.toArray (NoPanic Q) S fuel (listedAfter l listed) a w) : wpAnyH P .any lo.toArray (NoPanic Q) S (fuel + l.length) listed a w := by
  simp only [Bool.and_eq_true] at hB
  exact wpAnyH_of_orsN hs (fun _ _ _ _ _ h => h) R fuel l _ _ _ hB.1 hS (wpOrsN_of_K R _ _ _ hB.2 h) hR
end
end Go.Proofs.YtmjonlffhhehjaaGreatDoor
/- A stretch of a drawn region whose operations may come up in several orders, by state: what each operation leaves in its slot, stable while the world grows, and one proof an operation. No condition. -/
namespace Go.Proofs.YtmjonlffhhehjaaGreatDoor
def updF (f : Nat → Value) (i : Nat) (v : Value) : Nat → Value := fun k => if k = i then v else f k
/-- The slots written, each by its operation. -/
def putAll : Act → List (Nat × Nat) → (Nat → Value) → Act
  | a, [], _ => a
  | a, (s, i) :: r, f => putAll (a.put (some s) (f i)) r f
def slotsB : List (Nat × Nat) → Bool
  | [] => true
  | (s, i) :: r => r.all (fun x => decide (x.1 ≠ s) && decide (x.2 ≠ i)) && slotsB r
theorem put_comm (a : Act) (i j : Nat) (u v : Value) (h : i ≠ j) : (a.put (some i) u).put (some j) v = (a.put (some j) v).put (some i) u := by
  show ({ a with tmps := (a.tmps.setIfInBounds i u).setIfInBounds j v } : Act) = { a with tmps := (a.tmps.setIfInBounds j v).setIfInBounds i u }
  rw [Array.setIfInBounds_comm _ _ h]
theorem put_put (a : Act) (i : Nat) (u v : Value) : (a.put (some i) u).put (some i) v = a.put (some i) v := by
  show ({ a with tmps := (a.tmps.setIfInBounds i u).setIfInBounds i v } : Act) = { a with tmps := a.tmps.setIfInBounds i v }
  rw [Array.setIfInBounds_setIfInBounds]
theorem put_self (a : Act) (i : Nat) : a.put (some i) (a.tmps.getD i undef) = a := by
  have h : a.tmps.setIfInBounds i (a.tmps.getD i undef) = a.tmps := by
    apply Array.ext_getElem?
    intro k
    rw [Array.getElem?_setIfInBounds]
    split
    · rename_i hk
      subst hk
      split
      · rename_i hs; rw [Array.getElem?_eq_getElem hs]; simp
      · rename_i hs; rw [Array.getElem?_eq_none (by omega)]
    · rfl
  show ({ a with tmps := a.tmps.setIfInBounds i (a.tmps.getD i undef) } : Act) = a
  rw [h]
theorem putAll_put (f : Nat → Value) (s : Nat) (v : Value) : ∀ (r : List (Nat × Nat)) (a : Act), (∀ x ∈ r, x.1 ≠ s) → (putAll a r f).put (some s) v = putAll (a.put (some s) v) r f
  | [], _, _ => rfl
  | (s0, i0) :: r, a, h => by
    rw [putAll, putAll, putAll_put f s v r _ (fun x hx => h x (List.mem_cons_of_mem _ hx)), put_comm a s0 s _ _ (h _ List.mem_cons_self)]
theorem putAll_other (f : Nat → Value) (i : Nat) (v : Value) : ∀ (r : List (Nat × Nat)) (a : Act), (∀ x ∈ r, x.2 ≠ i) → putAll a r (updF f i v) = putAll a r f
  | [], _, _ => rfl
  | (s0, i0) :: r, a, h => by
    rw [putAll, putAll, putAll_other f i v r _ (fun x hx => h x (List.mem_cons_of_mem _ hx))]
    have : updF f i v i0 = f i0 := by unfold updF; rw [if_neg (h _ List.mem_cons_self)]
    rw [this]
theorem putAll_upd (f : Nat → Value) (s i : Nat) (v : Value) : ∀ (r : List (Nat × Nat)) (a : Act), slotsB r = true → (s, i) ∈ r → (putAll a r f).put (some s) v = putAll a r (updF f i v)
  | [], _, _, h => absurd h (by simp)
  | (s0, i0) :: r, a, hB, h => by
    simp only [slotsB, Bool.and_eq_true, List.all_eq_true, decide_eq_true_eq] at hB
    rcases List.mem_cons.1 h with h1 | h1
    · injection h1 with h2 h3
      subst h2 h3
      rw [putAll, putAll, putAll_put f s v r _ (fun x hx => (hB.1 x hx).1), put_put, putAll_other f i v r _ (fun x hx => (hB.1 x hx).2)]
      have : updF f i v i = v := by unfold updF; rw [if_pos rfl]
      rw [this]
    · have hne := (hB.1 _ h1).2
      have : updF f i v i0 = f i0 := by unfold updF; rw [if_neg (fun e => hne e.symm)]
      rw [putAll, putAll, putAll_upd f s i v r _ hB.2 h1, this]
theorem putAll_start : ∀ (r : List (Nat × Nat)) (a : Act), slotsB r = true → ∃ f, putAll a r f = a
  | [], _, _ => ⟨fun _ => undef, rfl⟩
  | (s, i) :: r, a, hB => by
    simp only [slotsB, Bool.and_eq_true, List.all_eq_true, decide_eq_true_eq] at hB
    obtain ⟨f, hf⟩ := putAll_start r a hB.2
    refine ⟨updF f i (a.tmps.getD s undef), ?_⟩
    have : updF f i (a.tmps.getD s undef) i = a.tmps.getD s undef := by unfold updF; rw [if_pos rfl]
    rw [putAll, this, put_self, putAll_other f i _ r _ (fun x hx => (hB.1 x hx).2), hf]
section
variable {P : Program} {lo : List Oper} {Q : Exit → Act → World → Prop} {S : World → Prop}
theorem wpOp_step {i : Nat} {a : Act} {w : World} {o : Oper} {K : Act → World → Prop} (ho : lo[i]? = some o) (hw : Region.wanted o (yielded lo.toArray a.tmps) = true)
    (h : ∀ K' : Act → World → Prop, (∀ a w, K a w → K' a w) → o.wp P a w K' Q) : wpOp P lo.toArray Q i K a w := by
  have hx := h _ (fun _ _ h => h)
  unfold wpOp
  rw [show lo.toArray[i]? = some o by simpa using ho]
  show if _ then _ else _
  rw [if_pos hw]
  exact .inl hx
theorem phi_step {Phi : Nat → Value → World → Prop} {E : World → World → Prop} (hE : ∀ i v w w', Phi i v w → E w w' → Phi i v w') {l : Array Bool} {f : Nat → Value} {w w' : World}
    (hf : ∀ i, l.getD i false = true → Phi i (f i) w) (he : E w w') (j : Nat) (v : Value) (hv : Phi j v w') : ∀ i, (l.setIfInBounds j true).getD i false = true → Phi i (updF f j v i) w' := by
  intro i hi
  unfold updF
  by_cases hij : i = j
  · subst hij; rw [if_pos rfl]; exact hv
  · rw [if_neg hij]
    refine hE _ _ _ _ (hf i ?_) he
    rw [Array.getD_eq_getD_getElem?, Array.getElem?_setIfInBounds_ne (Ne.symm hij)] at hi
    rwa [Array.getD_eq_getD_getElem?]
/-- One operation of the stretch: what it must leave. -/
def OpGoes (P : Program) (lo : List Oper) (Q : Exit → Act → World → Prop) (S : World → Prop) (Phi : Nat → Value → World → Prop) (E : World → World → Prop) (slots : List (Nat × Nat)) (a0 : Act) (f : Nat → Value) (w : World) (j : Nat) : Prop :=
  ∃ o s, lo[j]? = some o ∧ o.dst = some s ∧ (s, j) ∈ slots ∧ Region.wanted o (yielded lo.toArray (putAll a0 slots f).tmps) = true ∧
    ∀ K : Act → World → Prop, (∀ v w', S w' → E w w' → Phi j v w' → K ((putAll a0 slots f).put (some s) v) w') → o.wp P (putAll a0 slots f) w K Q
def listN (l0 : Array Bool) (d : List Nat) : Array Bool := d.foldl (fun l i => l.setIfInBounds i true) l0
theorem wpAnyH_group (slots : List (Nat × Nat)) (C : Nat → Array Bool → Bool) (Phi : Nat → Value → World → Prop) (E : World → World → Prop) (l0 : Array Bool) (fuel : Nat) (levs : List (List (List Nat))) (done : List Nat) {a0 : Act} {w : World}
    (hE : ∀ i v w w', Phi i v w → E w w' → Phi i v w') (hB : slotsB slots = true) (h0 : ∀ i v w, (slots.all fun x => decide (x.2 ≠ i)) = true → Phi i v w)
    (hl : (slots.all fun x => !l0.getD x.2 false) = true) (hS : S w)
    (hlev : levelsB .any lo.toArray C ([l0] :: (levs.map fun L => L.map (listN l0)) ++ [[listN l0 done]]) = true)
    (hop : ∀ (l : Array Bool) (f : Nat → Value) (w : World) (j : Nat), C j l = true → S w → (∀ i, l.getD i false = true → Phi i (f i) w) → OpGoes P lo Q S Phi E slots a0 f w j)
    (hend : ∀ (f : Nat → Value) (w : World), S w → (∀ i, (listN l0 done).getD i false = true → Phi i (f i) w) → wpAnyH P .any lo.toArray Q S fuel (listN l0 done) (putAll a0 slots f) w) :
    wpAnyH P .any lo.toArray Q S (fuel + (levs.length + 1)) l0 a0 w := by
  obtain ⟨f0, hf0⟩ := putAll_start slots a0 hB
  have hx := wpAnyH_states (P := P) (md := .any) (ops := lo.toArray) (Q := Q) (S := S) C (fun l a w => ∃ f, a = putAll a0 slots f ∧ S w ∧ ∀ i, l.getD i false = true → Phi i (f i) w) fuel [listN l0 done]
    (fun l a w j hC hJ => by
      obtain ⟨f, rfl, hSw, hf⟩ := hJ
      obtain ⟨o, s, ho, hd, hm, hw, hgo⟩ := hop l f w j hC hSw hf
      refine wpOp_step ho hw (fun K' hK' => hgo K' (fun v w' hS' he hv => hK' _ _ ⟨hS', updF f j v, putAll_upd f s j v slots a0 hB hm, hS', phi_step hE hf he j v hv⟩)))
    (fun l hl a w hJ => by
      obtain rfl : l = listN l0 done := by simpa using hl
      obtain ⟨f, rfl, hSw, hf⟩ := hJ
      exact hend f w hSw hf)
    (levs.map fun L => L.map (listN l0)) [l0] hlev l0 (by simp) a0 w
    ⟨f0, hf0.symm, hS, fun i hi => h0 i _ _ (by
      rw [List.all_eq_true] at hl ⊢
      intro x hx
      have := hl x hx
      rw [decide_eq_true_eq]
      intro e
      rw [e, hi] at this
      cases this)⟩
  rw [List.length_map] at hx
  exact hx
end
end Go.Proofs.YtmjonlffhhehjaaGreatDoor
/- A drawn region walked by what its operations wait for: each operation leaves a fact about its own value that lasts while memory grows; whatever order is drawn, an operation finds the facts of all that it waits for. No order and no state is listed: one proof an operation. No condition. -/
namespace Go.Proofs.YtmjonlffhhehjaaGreatDoor
open Go.RowKit
/-- What an operation waits for stands ahead of it. -/
def aheadB (md : Region.Mode) (ops : Array Oper) : Bool :=
  (List.range ops.size).all fun i => ((ops[i]?).map fun o => o.after.all fun e => !Region.binds md e || decide (e.on < i)).getD true
/-- It does wait for these. -/
def needB (md : Region.Mode) (ops : Array Oper) (D : Nat → List Nat) : Bool :=
  (List.range ops.size).all fun i => ((ops[i]?).map fun o => (D i).all fun j => o.after.any fun e => Region.binds md e && e.on == j).getD true
theorem ready_iff {md : Region.Mode} {ops : Array Oper} {listed : Array Bool} {i : Nat} : i ∈ Region.ready md ops listed ↔ i < ops.size ∧ listed.getD i true = false ∧ ∀ o, ops[i]? = some o → ∀ e ∈ o.after, Region.binds md e = true → listed.getD e.on false = true := by
  unfold Region.ready
  rw [List.mem_filter, List.mem_range]
  constructor
  · rintro ⟨hi, h⟩
    rw [Bool.and_eq_true] at h
    refine ⟨hi, by simpa using h.1, fun o ho e he hb => ?_⟩
    have h2 := h.2
    rw [ho] at h2
    simp only [Option.map_some, Option.getD_some, Array.all_eq_true_iff_forall_mem] at h2
    have := h2 e he
    rw [hb] at this
    simpa using this
  · rintro ⟨hi, h1, h2⟩
    refine ⟨hi, ?_⟩
    rw [Bool.and_eq_true]
    refine ⟨by rw [h1]; rfl, ?_⟩
    have ho : ops[i]? = some ops[i] := Array.getElem?_eq_getElem hi
    rw [ho]
    simp only [Option.map_some, Option.getD_some, Array.all_eq_true_iff_forall_mem]
    intro e he
    cases hb : Region.binds md e with
    | false => rfl
    | true => simpa using h2 _ ho e he hb
/-- Where nothing may come up any more, all has come up. -/
theorem all_listed {md : Region.Mode} {ops : Array Oper} {listed : Array Bool} (hA : aheadB md ops = true) (hs : listed.size = ops.size) (hr : Region.ready md ops listed = []) : ∀ n i, i < n → i < ops.size → listed.getD i true = true
  | 0, i, h, _ => absurd h (by omega)
  | n + 1, i, h, hi => by
    cases hl : listed.getD i true with
    | true => rfl
    | false =>
      have hm : i ∈ Region.ready md ops listed := ready_iff.2 ⟨hi, hl, fun o ho e he hb => by
        unfold aheadB at hA
        rw [List.all_eq_true] at hA
        have h1 := hA i (List.mem_range.2 hi)
        rw [ho] at h1
        simp only [Option.map_some, Option.getD_some, Array.all_eq_true_iff_forall_mem] at h1
        have h2 := h1 e he
        rw [hb] at h2
        have h3 : e.on < i := by simpa using h2
        have h4 := all_listed (by unfold aheadB; rw [List.all_eq_true]; exact hA) hs hr n e.on (by omega) (by omega)
        rw [Array.getD_eq_getD_getElem?, Array.getElem?_eq_getElem (by omega)] at h4 ⊢
        exact h4⟩
      rw [hr] at hm
      cases hm
/-- The slots that the operations write, each with its operation. -/
def slotsOf (q : Array Oper) : List (Nat × Nat) := (List.range q.size).filterMap fun i => (q[i]?.bind fun o => o.dst).map fun s => (s, i)
section
variable {P : Program} {lo : List Oper} {Q : Exit → Act → World → Prop} {S : World → Prop}
/-- One operation: what it leaves. -/
def FlowOp (P : Program) (lo : List Oper) (Q : Exit → Act → World → Prop) (S : World → Prop) (Phi : Nat → Value → World → Prop) (E : World → World → Prop) (A : Act) (w : World) (j : Nat) : Prop :=
  ∃ o, lo[j]? = some o ∧ Region.wanted o (yielded lo.toArray A.tmps) = true ∧
    ∀ K : Act → World → Prop, (∀ v w', S w' → E w w' → Phi j v w' → K (A.put o.dst v) w') → o.wp P A w K Q
theorem put_flow {slots : List (Nat × Nat)} (hB : slotsB slots = true) (hSl : slotsOf lo.toArray = slots) {o : Oper} {j : Nat} (ho : lo[j]? = some o) (a0 : Act) (f : Nat → Value) (v : Value) :
    (putAll a0 slots f).put o.dst v = putAll a0 slots (updF f j v) := by
  have hj : j < lo.length := by
    rcases Nat.lt_or_ge j lo.length with h | h
    · exact h
    · rw [List.getElem?_eq_none h] at ho; cases ho
  have ho' : lo.toArray[j]? = some o := by simpa using ho
  cases hd : o.dst with
  | none =>
    rw [putAll_other f j v slots a0 (fun x hx hxj => by
      rw [← hSl] at hx
      unfold slotsOf at hx
      rw [List.mem_filterMap] at hx
      obtain ⟨i, hi, hxi⟩ := hx
      cases hq : (lo.toArray[i]?.bind fun o => o.dst) with
      | none => rw [hq] at hxi; cases hxi
      | some s =>
        rw [hq] at hxi
        injection hxi with hxi
        subst hxi
        obtain rfl : i = j := hxj
        rw [ho'] at hq
        rw [show (some o).bind (fun o : Oper => o.dst) = o.dst from rfl, hd] at hq
        cases hq)]
    rfl
  | some s =>
    refine putAll_upd f s j v slots a0 hB ?_
    rw [← hSl]
    unfold slotsOf
    rw [List.mem_filterMap]
    refine ⟨j, List.mem_range.2 (by simpa using hj), ?_⟩
    rw [ho', show (some o).bind (fun o : Oper => o.dst) = o.dst from rfl, hd]
    rfl
theorem wpAnyH_flow (slots : List (Nat × Nat)) (D : Nat → List Nat) (Phi : Nat → Value → World → Prop) (E : World → World → Prop) (a0 : Act)
    (hE : ∀ i v w w', Phi i v w → E w w' → Phi i v w') (hB : slotsB slots = true) (hSl : slotsOf lo.toArray = slots) (hA : aheadB .any lo.toArray = true) (hN : needB .any lo.toArray D = true)
    (hop : ∀ (f : Nat → Value) (w : World) (j : Nat), j < lo.length → S w → (∀ d ∈ D j, Phi d (f d) w) → FlowOp P lo Q S Phi E (putAll a0 slots f) w j)
    (hend : ∀ (f : Nat → Value) (w : World), S w → (∀ i, i < lo.length → Phi i (f i) w) → Q .normal (putAll a0 slots f) w) :
    ∀ (fuel : Nat) (l : Array Bool) (f : Nat → Value) (w : World), l.size = lo.toArray.size → l.count false ≤ fuel → S w → (∀ i, l.getD i false = true → Phi i (f i) w) →
      wpAnyH P .any lo.toArray Q S fuel l (putAll a0 slots f) w := by
  have fin : ∀ (l : Array Bool) (f : Nat → Value) (w : World), l.size = lo.toArray.size → S w → (∀ i, l.getD i false = true → Phi i (f i) w) → Region.ready .any lo.toArray l = [] → Q .normal (putAll a0 slots f) w := by
    intro l f w hs hS hf hr
    refine hend f w hS fun i hi => hf i ?_
    have hi' : i < lo.toArray.size := by simpa using hi
    have h := all_listed hA hs hr (i + 1) i (by omega) hi'
    rw [Array.getD_eq_getD_getElem?, Array.getElem?_eq_getElem (by omega)] at h ⊢
    exact h
  have getI : ∀ (l : Array Bool) (i : Nat), l.getD i true = false → ∃ h : i < l.size, l[i] = false := by
    intro l i h
    rw [Array.getD_eq_getD_getElem?] at h
    rcases Nat.lt_or_ge i l.size with h' | h'
    · rw [Array.getElem?_eq_getElem h'] at h
      exact ⟨h', h⟩
    · rw [Array.getElem?_eq_none h'] at h
      cases h
  intro fuel
  induction fuel with
  | zero =>
    intro l f w hs hc hS hf
    have hr : Region.ready .any lo.toArray l = [] := by
      refine List.eq_nil_iff_forall_not_mem.2 fun i hi => ?_
      obtain ⟨_, h1, _⟩ := ready_iff.1 hi
      obtain ⟨hl, he⟩ := getI l i h1
      have : 0 < l.count false := Array.count_pos_iff.2 (by rw [← he]; exact Array.getElem_mem hl)
      omega
    exact ⟨hr, fin l f w hs hS hf hr⟩
  | succ fuel ih =>
    intro l f w hs hc hS hf
    refine ⟨fin l f w hs hS hf, fun j hj => ?_⟩
    obtain ⟨hjs, h1, hall⟩ := ready_iff.1 hj
    have hjl : j < lo.length := by simpa using hjs
    have hD : ∀ d ∈ D j, Phi d (f d) w := by
      intro d hd
      refine hf d ?_
      have hN1 := hN
      unfold needB at hN1
      rw [List.all_eq_true] at hN1
      have h2 := hN1 j (List.mem_range.2 hjs)
      have ho : lo.toArray[j]? = some lo.toArray[j] := Array.getElem?_eq_getElem hjs
      rw [ho, Option.map_some, Option.getD_some, List.all_eq_true] at h2
      have h3 := h2 d hd
      rw [Array.any_eq_true'] at h3
      obtain ⟨e, he, hb⟩ := h3
      rw [Bool.and_eq_true] at hb
      have h4 := hall _ ho e he hb.1
      have h5 : e.on = d := by simpa using hb.2
      rwa [h5] at h4
    obtain ⟨o, ho, hw, hgo⟩ := hop f w j hjl hS hD
    obtain ⟨hl, he⟩ := getI l j h1
    refine wpOp_step ho hw fun K' hK' => hgo K' fun v w' hS' hEw hv => hK' _ _ ⟨hS', ?_⟩
    rw [put_flow hB hSl ho]
    refine ih _ _ _ (by rw [Array.size_setIfInBounds]; exact hs) ?_ hS' (phi_step hE hf hEw j v hv)
    have hcnt : (l.setIfInBounds j true).count false = l.count false - 1 := by
      rw [Array.setIfInBounds_def, dif_pos hl, Array.count_set hl, he]
      rfl
    omega
/-- The same with one operation that waits for all others: it comes last, and may change what they left. -/
theorem wpAnyH_flowL (slots : List (Nat × Nat)) (D : Nat → List Nat) (Phi : Nat → Value → World → Prop) (E : World → World → Prop) (a0 : Act) (n : Nat) (hn : lo.length = n + 1) (hDn : ∀ i, i < n → i ∈ D n)
    (hE : ∀ i v w w', Phi i v w → E w w' → Phi i v w') (hB : slotsB slots = true) (hSl : slotsOf lo.toArray = slots) (hA : aheadB .any lo.toArray = true) (hN : needB .any lo.toArray D = true)
    (hop : ∀ (j : Nat), j < n → ∀ (f : Nat → Value) (w : World), S w → (∀ d ∈ D j, Phi d (f d) w) → FlowOp P lo Q S Phi E (putAll a0 slots f) w j)
    (hend : ∀ (f : Nat → Value) (w : World), S w → (∀ i, i < n → Phi i (f i) w) → wpOp P lo.toArray Q n (fun a' w' => S w' ∧ Q .normal a' w') (putAll a0 slots f) w) :
    ∀ (fuel : Nat) (l : Array Bool) (f : Nat → Value) (w : World), l.size = lo.toArray.size → l.getD n true = false → l.count false ≤ fuel → S w → (∀ i, l.getD i false = true → Phi i (f i) w) →
      wpAnyH P .any lo.toArray Q S fuel l (putAll a0 slots f) w := by
  have getI : ∀ (l : Array Bool) (i : Nat), l.getD i true = false → ∃ h : i < l.size, l[i] = false := by
    intro l i h
    rw [Array.getD_eq_getD_getElem?] at h
    rcases Nat.lt_or_ge i l.size with h' | h'
    · rw [Array.getElem?_eq_getElem h'] at h
      exact ⟨h', h⟩
    · rw [Array.getElem?_eq_none h'] at h
      cases h
  have fin : ∀ (l : Array Bool), l.size = lo.toArray.size → l.getD n true = false → Region.ready .any lo.toArray l ≠ [] := by
    intro l hs hln hr
    have h := all_listed hA hs hr (n + 1) n (by omega) (by simp; omega)
    rw [h] at hln
    cases hln
  intro fuel
  induction fuel with
  | zero =>
    intro l f w hs hln hc hS hf
    obtain ⟨hl, he⟩ := getI l n hln
    have : 0 < l.count false := Array.count_pos_iff.2 (by rw [← he]; exact Array.getElem_mem hl)
    omega
  | succ fuel ih =>
    intro l f w hs hln hc hS hf
    refine ⟨fun hr => absurd hr (fin l hs hln), fun j hj => ?_⟩
    obtain ⟨hjs, h1, hall⟩ := ready_iff.1 hj
    have hjl : j < lo.length := by simpa using hjs
    have hDl : ∀ d ∈ D j, l.getD d false = true := by
      intro d hd
      have hN1 := hN
      unfold needB at hN1
      rw [List.all_eq_true] at hN1
      have h2 := hN1 j (List.mem_range.2 hjs)
      have ho : lo.toArray[j]? = some lo.toArray[j] := Array.getElem?_eq_getElem hjs
      rw [ho, Option.map_some, Option.getD_some, List.all_eq_true] at h2
      have h3 := h2 d hd
      rw [Array.any_eq_true'] at h3
      obtain ⟨e, he, hb⟩ := h3
      rw [Bool.and_eq_true] at hb
      have h4 := hall _ ho e he hb.1
      have h5 : e.on = d := by simpa using hb.2
      rwa [h5] at h4
    by_cases hjn : j = n
    · subst hjn
      refine wpOp_mono (fun a' w' h' => ⟨h'.1, wpAnyH_done ?_ h'.2 fuel⟩) (hend f w hS fun i hi => hf i (hDl i (hDn i hi)))
      refine List.eq_nil_iff_forall_not_mem.2 fun i hi => ?_
      obtain ⟨his, hi1, _⟩ := ready_iff.1 hi
      have his' : i < j + 1 := by rw [← hn]; simpa using his
      obtain ⟨hl', he'⟩ := getI _ i hi1
      by_cases hij : i = j
      · subst hij
        simp at he'
      · have h6 := hDl i (hDn i (by omega))
        have hil : i < l.size := by simpa using hl'
        rw [Array.getElem_setIfInBounds (by simpa using hl'), if_neg (Ne.symm hij)] at he'
        rw [Array.getD_eq_getD_getElem?, Array.getElem?_eq_getElem hil] at h6
        rw [Option.getD_some, he'] at h6
        cases h6
    · obtain ⟨o, ho, hw, hgo⟩ := hop j (by omega) f w hS (fun d hd => hf d (hDl d hd))
      obtain ⟨hl, he⟩ := getI l j h1
      refine wpOp_step ho hw fun K' hK' => hgo K' fun v w' hS' hEw hv => hK' _ _ ⟨hS', ?_⟩
      rw [put_flow hB hSl ho]
      refine ih _ _ _ (by rw [Array.size_setIfInBounds]; exact hs) ?_ ?_ hS' (phi_step hE hf hEw j v hv)
      · rw [Array.getD_eq_getD_getElem?, Array.getElem?_setIfInBounds_ne hjn, ← Array.getD_eq_getD_getElem?]
        exact hln
      · have hcnt : (l.setIfInBounds j true).count false = l.count false - 1 := by
          rw [Array.setIfInBounds_def, dif_pos hl, Array.count_set hl, he]
          rfl
        omega
theorem lt_0 {p : Nat → Prop} : ∀ j, j < 0 → p j := fun _ h => absurd h (by omega)
theorem lt_s {p : Nat → Prop} {n : Nat} (h : ∀ j, j < n → p j) (h' : p n) : ∀ j, j < n + 1 → p j := fun j hj => by
  rcases Nat.lt_or_ge j n with h1 | h1
  · exact h j h1
  · obtain rfl : j = n := by omega
    exact h'
/-- The checks of a flow, for a theorem of its own. -/
def flowB (slots : List (Nat × Nat)) (D : Nat → List Nat) (q : Array Oper) : Bool :=
  slotsB slots && (decide (slotsOf q = slots) && (aheadB .any q && needB .any q D))
theorem wp_region_flow {id : Nat} {a : Act} {w : World} (slots : List (Nat × Nat)) (D : Nat → List Nat) (Phi : Nat → Value → World → Prop) (E : World → World → Prop) (S : World → Prop) (q : Array Oper)
    (hq : flowB slots D q = true) (he : lo.toArray = q) (hm : P.follows .mixedOrders = true) (hS : S w.drew) (hE : ∀ i v w w', Phi i v w → E w w' → Phi i v w')
    (hop : ∀ (j : Nat), j < lo.length → ∀ (f : Nat → Value) (w : World), S w → (∀ d ∈ D j, Phi d (f d) w) → FlowOp P lo (NoPanic Q) S Phi E (putAll a slots f) w j)
    (hend : ∀ (f : Nat → Value) (w : World), S w → (∀ i, i < lo.length → Phi i (f i) w) → Q .normal (putAll a slots f) w) : (Code.region id lo.toArray true).wp P Q a w := by
  subst he
  unfold flowB at hq
  simp only [Bool.and_eq_true, decide_eq_true_eq] at hq
  obtain ⟨hB, hSl, hA, hN⟩ := hq
  obtain ⟨f0, hf0⟩ := putAll_start slots a hB
  refine wp_region_noPanic (wp_region_held_drew (S := S) hm hS fun _ => ?_)
  have h := wpAnyH_flow (Q := NoPanic Q) slots D Phi E a hE hB hSl hA hN (fun f w j hj => hop j hj f w) hend lo.toArray.size (Array.replicate lo.toArray.size false) f0 w.drew (by simp) (by simp) hS (fun i hi => by
    rw [Array.getD_eq_getD_getElem?, Array.getElem?_replicate] at hi
    split at hi <;> cases hi)
  rw [hf0] at h
  exact h
theorem wp_region_flowL {id : Nat} {a : Act} {w : World} (slots : List (Nat × Nat)) (D : Nat → List Nat) (Phi : Nat → Value → World → Prop) (E : World → World → Prop) (S : World → Prop) (q : Array Oper) (n : Nat) (hn : lo.length = n + 1) (hDn : ∀ i, i < n → i ∈ D n)
    (hq : flowB slots D q = true) (he : lo.toArray = q) (hm : P.follows .mixedOrders = true) (hS : S w.drew) (hE : ∀ i v w w', Phi i v w → E w w' → Phi i v w')
    (hop : ∀ (j : Nat), j < n → ∀ (f : Nat → Value) (w : World), S w → (∀ d ∈ D j, Phi d (f d) w) → FlowOp P lo (NoPanic Q) S Phi E (putAll a slots f) w j)
    (hend : ∀ (f : Nat → Value) (w : World), S w → (∀ i, i < n → Phi i (f i) w) → wpOp P lo.toArray (NoPanic Q) n (fun a' w' => S w' ∧ Q .normal a' w') (putAll a slots f) w) : (Code.region id lo.toArray true).wp P Q a w := by
  subst he
  unfold flowB at hq
  simp only [Bool.and_eq_true, decide_eq_true_eq] at hq
  obtain ⟨hB, hSl, hA, hN⟩ := hq
  obtain ⟨f0, hf0⟩ := putAll_start slots a hB
  refine wp_region_noPanic (wp_region_held_drew (S := S) hm hS fun _ => ?_)
  have h := wpAnyH_flowL (Q := NoPanic Q) slots D Phi E a n hn hDn hE hB hSl hA hN hop hend lo.toArray.size (Array.replicate lo.toArray.size false) f0 w.drew (by simp) (by rw [Array.getD_eq_getD_getElem?, Array.getElem?_replicate, if_pos (by simp; omega)]; rfl) (by simp) hS (fun i hi => by
    rw [Array.getD_eq_getD_getElem?, Array.getElem?_replicate] at hi
    split at hi <;> cases hi)
  rw [hf0] at h
  exact h
end
end Go.Proofs.YtmjonlffhhehjaaGreatDoor
/- Rows of several pieces or byte slices as literals, boxes that hold a piece; what a drawn region's operations leave. No condition. -/
namespace Go.Proofs.YtmjonlffhhehjaaGreatDoor
open Go.RowKit
theorem Has.keepB {w w' : World} {g : Nat} {t : TypeId} {l : List Value} (h : Has w g t l) (hb : Below w.heap.size w w') : Has w' g t l := (hb.block g h.lt).trans h
def aggP (p : Pc) : Value := .agg (encP p).toArray
theorem fill_manyP (L : List Pc) (cells : Array Value) (hc : cells.size = L.length * 33) :
    Instr.fill (fun i => some (i * 33, 33)) cells (((L.map aggP).zipIdx 0).map fun x => (x.2, x.1)) = some (rowP L).toArray := by
  obtain ⟨r, h1, h2, h3⟩ := Great.fill_dense (s := 33) (by decide) (L.map aggP) 0 cells (fun v hv => by
    obtain ⟨x, _, rfl⟩ := List.mem_map.1 hv
    show (encP x).toArray.size = 33
    rw [List.size_toArray, encP_len]) (by rw [List.length_map, hc, Nat.zero_add]; exact Nat.le_refl _)
  rw [h1]
  congr 1
  have hs : r.size = (rowP L).toArray.size := by rw [h2, hc]; simp [rowP_len]
  refine Array.ext hs fun k hk1 hk2 => ?_
  have h4 := h3 k
  have hk : k < L.length * 33 := by rw [h2, hc] at hk1; exact hk1
  have hi : k / 33 < L.length := by omega
  rw [if_pos ⟨by omega, by rw [List.length_map, Nat.zero_add]; exact hk⟩, Nat.sub_zero, List.getElem?_map, List.getElem?_eq_getElem hi, Option.map_some, Option.bind_some] at h4
  have h5 := rowP_get L (k / 33) hi (k % 33) (Nat.mod_lt _ (by decide))
  rw [show k / 33 * 33 + k % 33 = k by omega] at h5
  have h6 : (aggP L[k / 33]).cells[k % 33]? = (encP L[k / 33])[k % 33]? := by simp [aggP, Value.cells]
  rw [h6, ← h5, Array.getElem?_eq_getElem hk1] at h4
  have h7 : (rowP L)[k]? = some ((rowP L).toArray[k]) := by simp
  rw [h7] at h4
  exact Option.some.inj h4
section
variable {ops : Array Oper} {rest : List Oper} {o : Oper} {a : Act} {w : World} {Q : Exit → Act → World → Prop} {K : Act → World → Prop}
/-- A row of some pieces, a literal. -/
theorem wp_lit_pc (T E : TypeId) (hT : ElP T E) (n : Nat) (parts : Array (Nat × Operand)) (ho : o.op = .buildSlice T n parts) (L : List Pc) (hn : L.length = n) (h0 : 0 < n) (h9 : n ≤ 1000)
    (hx : (parts.map fun (i, x) => (i, a.eval x)).toList = ((L.map aggP).zipIdx 0).map fun x => (x.2, x.1))
    (h : K (a.put o.dst (.slice (some ⟨w.heap.size, 0, none⟩) n n)) (w.alloc (.cells (rowP L).toArray E))) : o.wp Tryz.prog a w K Q := by
  subst hn
  obtain ⟨i0, hi, hz0, hz1, hz2⟩ := info_parts hT.2.2
  refine wp_buildSlice T E L.length parts ho (rowP L).toArray i0 _ hT.1 hi hz0 (by rw [hz1]; omega) (by rw [hz1]; omega) ?_ h
  rw [hx, hz1]
  exact fill_manyP L _ (by simp)
/-- A row of two slices of bytes. -/
theorem wp_two_bs (x y : Operand) (ho : o.op = .buildSlice 82 2 #[(0, x), (1, y)]) (u v : Value) (hx : a.eval x = u) (hy : a.eval y = v) (qu : Option Addr) (nu cu : Nat) (hu : u = .slice qu nu cu) (qv : Option Addr) (nv cv : Nat) (hv : v = .slice qv nv cv)
    (h : K (a.put o.dst (.slice (some ⟨w.heap.size, 0, none⟩) 2 2)) (w.alloc (.cells #[u, v] 40))) : o.wp Tryz.prog a w K Q := by
  subst hu hv
  obtain ⟨i0, hi, hz0, hz1, hz2⟩ := info_parts slT_infoP
  refine wp_buildSlice 82 40 2 _ ho #[.slice qu nu cu, .slice qv nv cv] i0 _ Tryz.underlying82 hi hz0 (by rw [hz1]; omega) (by rw [hz1]; omega) ?_ h
  rw [hz1]
  simp only [List.map_toArray, List.map_cons, List.map_nil, hx, hy]
  kernel_rfl
/-- A row of three slices of bytes. -/
theorem wp_three_bs (x y z : Operand) (ho : o.op = .buildSlice 82 3 #[(0, x), (1, y), (2, z)]) (qu : Option Addr) (nu cu : Nat) (qv : Option Addr) (nv cv : Nat) (qw : Option Addr) (nw cw : Nat)
    (hx : a.eval x = .slice qu nu cu) (hy : a.eval y = .slice qv nv cv) (hz : a.eval z = .slice qw nw cw)
    (h : K (a.put o.dst (.slice (some ⟨w.heap.size, 0, none⟩) 3 3)) (w.alloc (.cells #[.slice qu nu cu, .slice qv nv cv, .slice qw nw cw] 40))) : o.wp Tryz.prog a w K Q := by
  obtain ⟨i0, hi, hz0, hz1, hz2⟩ := info_parts slT_infoP
  refine wp_buildSlice 82 40 3 _ ho #[.slice qu nu cu, .slice qv nv cv, .slice qw nw cw] i0 _ Tryz.underlying82 hi hz0 (by rw [hz1]; omega) (by rw [hz1]; omega) ?_ h
  rw [hz1]
  simp only [List.map_toArray, List.map_cons, List.map_nil, hx, hy, hz]
  kernel_rfl
/-- A piece is stored into the box that was laid for it. -/
theorem wpList_store_pc (hgd : o.guard = none) (x y : Operand) (ho : o.op = .store 87 x y) (g : Nat) (p : Pc) (h1 : p.2.1.oneCell' = true) (hx : a.eval x = .pointer (some ⟨g, 0, none⟩)) (hy : a.eval y = .agg (encP p).toArray)
    (hh : Has w g 87 zPc.toList)
    (h : ∀ w', Has w' g 87 (encP p) → (∀ b, b ≤ g → Below b w w') → (∀ k, k ≠ g → w'.heap[k]? = w.heap[k]?) → wpList Tryz.prog ops Q rest (a.put o.dst undef) w') : wpList Tryz.prog ops Q (o :: rest) a w := by
  refine wpList_store_row hgd _ x y ho g (encP p).toArray hx hy _ zPc.toList.toArray hh (by rw [szPc, List.size_toArray, encP_len]) (by rw [List.size_toArray, List.size_toArray, encP_len]; exact zPc_size) (encP_all h1) ?_
  exact h _ (hh.rowl _) (fun b hb => below_row (Below.refl _ _) hb _) (fun k hk => setRow_other w g k _ hk)
end
theorem made_z (w : World) : Has (w.alloc (.cells zPc 87)) w.heap.size 87 zPc.toList := Has.made' _ _ _ _ (by simp)
/-- The piece that a box holds. -/
theorem load_box {o : Oper} {ev : Operand → Value} {w : World} (x : Operand) (ho : o.op = .load 87 x) (g : Nat) (hx : ev x = .pointer (some ⟨g, 0, none⟩)) (p : Pc) (h : Has w g 87 (encP p)) :
    (execOp ev o).run Tryz.prog w = .ok (.value (.agg (encP p).toArray)) w :=
  load_pc 42 87 elPc x ho _ hx p (fun j u hu => by rw [add_lit', Nat.zero_add]; exact h.cellv hu)
/-- Its sum. -/
theorem load_boxS {o : Oper} {ev : Operand → Value} {w : World} (x : Operand) (ho : o.op = .load 31 x) (g : Nat) (hx : ev x = .pointer (some ⟨g, 0, none⟩)) (p : Pc) (h : Has w g 87 (encP p)) :
    (execOp ev o).run Tryz.prog w = .ok (.value (.agg (encU p.1).toArray)) w :=
  load_su 31 x ho _ hx elSum.2.1 szSum p.1 (fun j u hu => by rw [add_lit', Nat.zero_add]; exact h.cellv (encP_su hu))
/-- A fresh row reads as its cells. -/
theorem made_row (w : World) (E : TypeId) (l : List Value) : Sees (w.alloc (.cells l.toArray E)) (w.alloc (.cells l.toArray E)).heap.size (some ⟨w.heap.size, 0, none⟩) l := by
  have hh : Has (w.alloc (.cells l.toArray E)) w.heap.size E l := Has.made' _ _ _ _ rfl
  exact Sees.of_has hh hh.lt
theorem Sees.keepS {w w' : World} {q : Option Addr} {l : List Value} (h : Sees w w.heap.size q l) (hb : Below w.heap.size w w') : Sees w' w'.heap.size q l := (h.keep hb).more hb.size
theorem Pcb.none (w : World) : Pcb w [] := fun p hp => by cases hp
theorem Pcb.cons {w : World} {p : Pc} {L : List Pc} (h : Bs w p.2.1 p.2.2) (hs : Pcb w L) : Pcb w (p :: L) := fun x hx => by
  rcases List.mem_cons.1 hx with rfl | hx
  · exact h
  · exact hs x hx
/-- Blocks' cells stay; what is frozen in them may change. -/
def Flo (base : Nat) (w w' : World) : Prop := Below base w w' ∧ w.heap.size ≤ w'.heap.size ∧ ∀ (k : Nat) (cs : Array Value) (t : TypeId) (f : Nat × Nat), w.heap[k]? = some (Obj.cells cs t f) → ∃ f', w'.heap[k]? = some (Obj.cells cs t f')
theorem Flo.of {base : Nat} {w w' : World} (hB : base ≤ w.heap.size) (h : Below w.heap.size w w') : Flo base w w' := ⟨h.mono hB, h.size, fun k cs t f hk => ⟨f, by
  rw [h.block k (Array.getElem?_eq_some_iff.1 hk).1]; exact hk⟩⟩
theorem Flo.refl (base : Nat) (w : World) : Flo base w w := ⟨Below.refl _ _, Nat.le_refl _, fun _ _ _ f h => ⟨f, h⟩⟩
/-- Block g holds these cells. -/
def Cl (w : World) (g : Nat) (t : TypeId) (l : List Value) : Prop := ∃ f, w.heap[g]? = some (.cells l.toArray t f)
theorem Cl.flo {base : Nat} {w w' : World} {g : Nat} {t : TypeId} {l : List Value} (h : Cl w g t l) (he : Flo base w w') : Cl w' g t l := by
  obtain ⟨f, h⟩ := h
  exact he.2.2 _ _ _ _ h
theorem Cl.lt {w : World} {g : Nat} {t : TypeId} {l : List Value} (h : Cl w g t l) : g < w.heap.size := by
  obtain ⟨f, h⟩ := h
  exact (Array.getElem?_eq_some_iff.1 h).1
theorem Cl.cell {w : World} {g : Nat} {t : TypeId} {l : List Value} (h : Cl w g t l) (i : Nat) : w.cell? ⟨g, i, none⟩ = l[i]? := by
  obtain ⟨f, h⟩ := h
  rw [cell_of_row w g i l.toArray t f h]; simp
theorem Cl.sees {w : World} {g : Nat} {t : TypeId} {l : List Value} (h : Cl w g t l) : Sees w w.heap.size (some ⟨g, 0, none⟩) l := fun _ =>
  ⟨⟨g, 0, none⟩, rfl, h.lt, fun j u hu => by rw [add_lit', Nat.zero_add]; exact (h.cell j).trans hu⟩
theorem Cl.made (w : World) (t : TypeId) (l : List Value) : Cl (w.alloc (.cells l.toArray t)) w.heap.size t l := ⟨(0, 0), heap_alloc_new _ _⟩
theorem Cl.bs {w : World} {g n : Nat} {x : List (BitVec 8)} (h : Cl w g 5 (x.map u8v)) (hn : x.length = n) : Bs w (.slice (some ⟨g, 0, none⟩) n n) x :=
  ⟨some ⟨g, 0, none⟩, n, by rw [hn], by rw [hn]; exact Nat.le_refl _, fun h => (by cases h), h.sees⟩
/-- A literal's conversion, wherever its block lies. -/
theorem freeze_flo {base : Nat} {w : World} {g n : Nat} (hg : base ≤ g) : Flo base w (w.freeze ⟨g, n, none⟩ 1) := by
  unfold World.freeze
  rw [if_neg (by decide)]
  refine ⟨⟨rfl, rfl, rfl, by simp, fun k hk => ?_⟩, by simp, fun k cs t f hk => ?_⟩
  · simp only [Array.getElem?_modify]
    rw [if_neg (by omega)]
  · simp only [Array.getElem?_modify]
    by_cases h : g = k
    · rw [if_pos h, hk]; exact ⟨_, rfl⟩
    · rw [if_neg h]; exact ⟨f, hk⟩
theorem conv_at {w : World} {g : Nat} {l : List Value} (h : Cl w g 5 l) (n c : Nat) :
    (convert 40 40 (.slice (some ⟨g, 0, none⟩) n c)).run Tryz.prog w = .ok (.slice (some ⟨g, 0, none⟩) n c) (w.freeze ⟨g, l.length, none⟩ 1) := by
  have hsh : w.shape? g = some (5, l.length) := by
    obtain ⟨f, h⟩ := h
    unfold World.shape?
    rw [h]; simp
  simp [convert, run_underlying Tryz.underlying40, run_underlying Tryz.underlying5, markStringish, hsh]
section
variable {o : Oper} {a : Act} {w : World} {Q : Exit → Act → World → Prop} {K : Act → World → Prop}
theorem wp_conv_at (x : Operand) (ho : o.op = .convert 40 40 x) (g n c : Nat) (l : List Value) (hx : a.eval x = .slice (some ⟨g, 0, none⟩) n c) (hc : Cl w g 5 l)
    (h : K (a.put o.dst (.slice (some ⟨g, 0, none⟩) n c)) (w.freeze ⟨g, l.length, none⟩ 1)) : o.wp Tryz.prog a w K Q := by
  unfold Oper.wp execOp
  simp only [ho, hx, Sem.run_bind, conv_at hc n c, Result.andThen_ok]
  exact h
theorem wp_val {v : Value} (hr : (execOp a.eval o).run Tryz.prog w = .ok (.value v) w) (h : K (a.put o.dst v) w) : o.wp Tryz.prog a w K Q := by
  unfold Oper.wp
  rw [hr]
  exact h
end
theorem run_move {o : Oper} {ev : Operand → Value} {w : World} (x : Operand) (ho : o.op = .move x) {v : Value} (hx : ev x = v) : (execOp ev o).run Tryz.prog w = .ok (.value v) w := by
  unfold execOp; simp [ho, hx]
theorem run_assign {o : Oper} {ev : Operand → Value} {w : World} (x : Operand) (ho : o.op = .assign x) {v : Value} (hx : ev x = v) : (execOp ev o).run Tryz.prog w = .ok (.value v) w := by
  unfold execOp; simp [ho, hx]
theorem run_extract {o : Oper} {ev : Operand → Value} {w : World} (x : Operand) (k : Nat) (ho : o.op = .extract x k) {vs : Array Value} {v : Value} (hx : ev x = .tuple vs) (hk : vs[k]? = some v) : (execOp ev o).run Tryz.prog w = .ok (.value v) w := by
  unfold execOp; simp [ho, hx, Instr.extract, hk]
theorem run_field0 {o : Oper} {ev : Operand → Value} {w : World} (x : Operand) (ho : o.op = .fieldAddr 87 x 0) (g : Nat) (hx : ev x = .pointer (some ⟨g, 0, none⟩)) : (execOp ev o).run Tryz.prog w = .ok (.value (.pointer (some ⟨g, 0, none⟩))) w := by
  unfold execOp; simp only [ho, hx]; kernel_rfl
theorem flow_val {lo : List Oper} {Q : Exit → Act → World → Prop} {S : World → Prop} {Phi : Nat → Value → World → Prop} {E : World → World → Prop} {A : Act} {w : World} {j : Nat} {o : Oper} (ho : lo[j]? = some o) (hw : Region.wanted o (yielded lo.toArray A.tmps) = true) (v : Value) (hr : (execOp A.eval o).run Tryz.prog w = .ok (.value v) w) (hS : S w) (hE : E w w) (hP : Phi j v w) :
    FlowOp Tryz.prog lo Q S Phi E A w j := ⟨o, ho, hw, fun _ hK => wp_val hr (hK v w hS hE hP)⟩
theorem wp_callO {o : Oper} {a : Act} {w : World} {Q : Exit → Act → World → Prop} {K : Act → World → Prop} (f : FuncId) (x : Operand) (ts : Array TypeId) (ho : o.op = .call { callee := .value (.func f), args := #[x], argTypes := ts }) (u : Value) (hx : a.eval x = u) (hcf : (callFunc f #[u]).run Tryz.prog w = .ok (.enter f #[u]) w)
    {R : Ending → World → Prop} (hc : Calls Tryz.prog f #[u] w R) (h : ∀ e w', R e w' → ∃ r, e = .returned r ∧ K (a.put o.dst r) w') : o.wp Tryz.prog a w K Q := by
  unfold Oper.wp
  have he : (execOp a.eval o).run Tryz.prog w = .ok (.enter f #[u]) w := by
    unfold execOp
    have hf : a.eval (.func f) = .func (.func f) #[] #[] := rfl
    simp [ho, resolve, invoke, hx, hf, Deferred.ofValue, hcf]
  rw [he, Oper.upon_enter]
  refine Calls.mono hc ?_
  intro e w' hr
  obtain ⟨r, rfl, hk⟩ := h e w' hr
  exact hk
theorem wp_callT {o : Oper} {a : Act} {w : World} {Q : Exit → Act → World → Prop} {K : Act → World → Prop} (f : FuncId) (x y : Operand) (ts : Array TypeId) (ho : o.op = .call { callee := .value (.func f), args := #[x, y], argTypes := ts }) (u v : Value) (hx : a.eval x = u) (hy : a.eval y = v) (hcf : (callFunc f #[u, v]).run Tryz.prog w = .ok (.enter f #[u, v]) w)
    {R : Ending → World → Prop} (hc : Calls Tryz.prog f #[u, v] w R) (h : ∀ e w', R e w' → ∃ r, e = .returned r ∧ K (a.put o.dst r) w') : o.wp Tryz.prog a w K Q := by
  unfold Oper.wp
  have he : (execOp a.eval o).run Tryz.prog w = .ok (.enter f #[u, v]) w := by
    unfold execOp
    have hf : a.eval (.func f) = .func (.func f) #[] #[] := rfl
    simp [ho, resolve, invoke, hx, hy, hf, Deferred.ofValue, hcf]
  rw [he, Oper.upon_enter]
  refine Calls.mono hc ?_
  intro e w' hr
  obtain ⟨r, rfl, hk⟩ := h e w' hr
  exact hk
theorem of_at {w : World} {g : Nat} {v : Value} {x : List (BitVec 8)} (hc : Cl w g 40 [v]) (h : Bs w v x) (hx : x.length ≤ 1000000) (hL : Laid w) :
    Calls Tryz.prog 19 #[.slice (some ⟨g, 0, none⟩) 1 1] w fun e w' => e = .returned (.agg (encU (shaU x)).toArray) ∧ Below w.heap.size w w' := by
  obtain ⟨q, c, rfl, hc', _, hs⟩ := h
  have hP : Parts w w.heap.size (some ⟨g, 0, none⟩) [x] := fun i hi => by
    obtain rfl : i = 0 := by simpa using hi
    exact ⟨⟨g, 0, none⟩, q, c, rfl, hc.lt, by rw [add_lit', Nat.zero_add]; exact hc.cell 0, hc', hs⟩
  have h := of_any [x] _ 1 _ hP (by simp) (by simp; omega) hL
  refine Calls.mono h ?_
  rintro e w' ⟨rfl, h2⟩
  have e : ([x] : List (List (BitVec 8))).flatten = x := by simp
  rw [e]
  exact ⟨rfl, h2⟩
/-- A piece of which the sum alone is given. -/
theorem built_pc0 (s : Su) : Tryz.prog.built 87 [(0, .agg (encU s).toArray)] = some (encP (s, .slice none 0 0, [])).toArray := by
  obtain ⟨l, hl⟩ := s
  unfold encP encU
  match l, hl with
  | [a0, a1, a2, a3, a4, a5, a6, a7, a8, a9, b0, b1, b2, b3, b4, b5, b6, b7, b8, b9, c0, c1, c2, c3, c4, c5, c6, c7, c8, c9, d0, d1], _ => show _ = _; kernel_rfl
theorem of_none (w : World) (hL : Laid w) : Calls Tryz.prog 19 #[.slice none 0 0] w fun e w' => e = .returned (.agg (encU (shaU [])).toArray) ∧ Below w.heap.size w w' :=
  of_any [] none 0 w (fun i hi => absurd hi (by simp)) (by simp) (by simp) hL
def z129 : List (BitVec 8) := List.replicate 129 0#8
theorem z129_cells : madeCells #[Value.int .u8 0] 129 = (z129.map u8v).toArray := by kernel_rfl
theorem z129_run (w : World) : (Instr.makeSlice 40 (.int .i64 129) (.int .i64 129)).run Tryz.prog w = .ok (.slice (some ⟨w.heap.size, 0, none⟩) 129 129) (w.alloc (.cells (z129.map u8v).toArray 5)) := by
  obtain ⟨i0, hi, hz0, hz1, hz2⟩ := info_parts u8_info
  have := run_make (P := Tryz.prog) w 40 5 i0 (.int .u8 0) Tryz.underlying40 hi hz0 .i64 .i64 129 129 (by omega) (by omega) (by rw [hz2]; omega) (by omega)
  rw [hz1, show (Value.int .u8 0).cells = #[Value.int .u8 0] from rfl, show Int.toNat 129 * 1 = 129 from rfl, z129_cells] at this
  simpa using this
section
variable {o : Oper} {a : Act} {w : World} {Q : Exit → Act → World → Prop} {K : Act → World → Prop}
theorem wp_z129 (ho : o.op = .makeSlice 40 (.const (.int .i64 129)) (.const (.int .i64 129)))
    (h : K (a.put o.dst (.slice (some ⟨w.heap.size, 0, none⟩) 129 129)) (w.alloc (.cells (z129.map u8v).toArray 5))) : o.wp Tryz.prog a w K Q := by
  unfold Oper.wp execOp
  have e : a.eval (.const (.int .i64 129)) = .int .i64 129 := rfl
  simp only [ho, e, Sem.run_bind, z129_run w, Result.andThen_ok]
  exact h
theorem wp_alloc_pc (ho : o.op = .alloc 87) (h : K (a.put o.dst (.pointer (some ⟨w.heap.size, 0, none⟩))) (w.alloc (.cells zPc 87))) : o.wp Tryz.prog a w K Q := by
  unfold Oper.wp execOp
  simp [ho, Instr.alloc, zPc_run w, newVar, newRow, Value.cells, Result.andThen]
  exact h
end
theorem Has.cl {w : World} {g : Nat} {t : TypeId} {l : List Value} (h : Has w g t l) : Cl w g t l := ⟨(0, 0), h⟩
theorem Has.apartT {w : World} {g k : Nat} {t s : TypeId} {l m : List Value} (h : Has w g t l) (h' : Has w k s m) (hne : t ≠ s) : g ≠ k := fun e => by
  subst e
  have h1 := Option.some.inj (h.symm.trans h')
  injection h1 with _ h2 _
  exact hne h2
end Go.Proofs.YtmjonlffhhehjaaGreatDoor
/- Single operations run: a field's address, one cell read; a recipe's line built; results of a cell and a slot. No condition. -/
namespace Go.Proofs.YtmjonlffhhehjaaGreatDoor
open Go.RowKit
theorem run_fieldE0 {o : Oper} {ev : Operand → Value} {w : World} (x : Operand) (ho : o.op = .fieldAddr 47 x 0) (g : Nat) (hx : ev x = .pointer (some ⟨g, 0, none⟩)) : (execOp ev o).run Tryz.prog w = .ok (.value (.pointer (some ⟨g, 0, none⟩))) w := by
  unfold execOp; simp only [ho, hx]; kernel_rfl
theorem run_fieldE2 {o : Oper} {ev : Operand → Value} {w : World} (x : Operand) (ho : o.op = .fieldAddr 47 x 2) (g : Nat) (hx : ev x = .pointer (some ⟨g, 0, none⟩)) : (execOp ev o).run Tryz.prog w = .ok (.value (.pointer (some ⟨g, 2, none⟩))) w := by
  unfold execOp; simp only [ho, hx]; kernel_rfl
def onecell (t : TypeDesc) : Bool := match t with | .struct _ | .array _ _ => false | _ => true
theorem run_load1 {o : Oper} {ev : Operand → Value} {w : World} (T : TypeId) (x : Operand) (ho : o.op = .load T x) (p : Addr) (hx : ev x = .pointer (some p)) {u : TypeDesc} (hu : Tryz.prog.underlying T = some u) (hk : onecell u = true) {v : Value} (hc : w.cell? p = some v) : (execOp ev o).run Tryz.prog w = .ok (.value v) w := by
  have hagg : (isAgg T).run Tryz.prog w = .ok false w := by
    unfold isAgg
    rw [Sem.run_bind, run_underlying hu w]
    cases u <;> first | rfl | (cases hk) | simp
  unfold execOp
  simp only [ho, hx, Instr.loadAt, Instr.sureAddr, Sem.run_bind, Sem.run_pure, Result.andThen_ok]
  simp [loadVar, hagg, hc]
theorem build_val {o : Oper} {ev : Operand → Value} {w : World} (E : TypeId) (parts : Array (Nat × Operand)) (ho : o.op = .build E parts) (cs : Array Value) (l : List (Nat × Value)) (hl : (parts.map fun (i, x) => (i, ev x)).toList = l) (hb : Tryz.prog.built E l = some cs) :
    (execOp ev o).run Tryz.prog w = .ok (.value (.agg cs)) w := by
  unfold execOp
  simp only [ho, Sem.run_bind, run_build w E _ cs (by rw [hl]; exact hb), Result.andThen_ok]
  rfl
theorem built_dir (x : ByteArray) : Tryz.prog.built 34 [(0, .string x), (1, .bool true)] = some (encL (x, true, zSu, .slice none 0 0, [])).toArray := by kernel_rfl
theorem built_file (x : ByteArray) (s : Su) (q : Option Addr) (n c : Nat) (N : List Su) : Tryz.prog.built 34 [(0, .string x), (2, .agg (encU s).toArray), (3, .slice q n c)] = some (encL (x, false, s, .slice q n c, N)).toArray := by
  obtain ⟨l, hl⟩ := s
  unfold encL encU
  match l, hl with
  | [a0, a1, a2, a3, a4, a5, a6, a7, a8, a9, b0, b1, b2, b3, b4, b5, b6, b7, b8, b9, c0, c1, c2, c3, c4, c5, c6, c7, c8, c9, d0, d1], _ => show _ = _; kernel_rfl
def zLv : Array Value := #[.string ⟨#[]⟩, .bool false, .int .u8 0, .int .u8 0, .int .u8 0, .int .u8 0, .int .u8 0, .int .u8 0, .int .u8 0, .int .u8 0, .int .u8 0, .int .u8 0, .int .u8 0, .int .u8 0, .int .u8 0, .int .u8 0, .int .u8 0, .int .u8 0, .int .u8 0, .int .u8 0, .int .u8 0, .int .u8 0, .int .u8 0, .int .u8 0, .int .u8 0, .int .u8 0, .int .u8 0, .int .u8 0, .int .u8 0, .int .u8 0, .int .u8 0, .int .u8 0, .int .u8 0, .int .u8 0, .slice none 0 0]
theorem zLv_eq : zLn = zLv := by kernel_rfl
theorem results_two {fn : Func} {p u : Tmp} {ty : TypeId} (h : fn.results = #[.cell p ty, .tmp u]) (tmps : Array Value) (w : World) (g : Nat) (t : TypeId) (cs : Array Value) (fr : Nat × Nat) {fs : Array Field}
    (hp : tmps.getD p undef = .pointer (some ⟨g, 0, none⟩)) (hg : w.heap[g]? = some (.cells cs t fr)) (x : Value) (hx : tmps.getD u undef = x)
    (hu : Tryz.prog.underlying ty = some (.struct fs)) (hi : (Tryz.prog.info? ty).map (·.size) = some cs.size) :
    (results fn tmps).run Tryz.prog w = .ok (.tuple #[.agg cs, x]) w := by
  have hp' : tmps[p]?.getD undef = .pointer (some ⟨g, 0, none⟩) := by simpa using hp
  have hx' : tmps[u]?.getD undef = x := by simpa using hx
  simp [results, h, hp', hx', asAddr, run_loadVar_row w g t ty cs fr _ hg hu rfl hi]
end Go.Proofs.YtmjonlffhhehjaaGreatDoor
/- Contract: recipe's lineOf. Conditions: at most a million bytes; the sums' tables are laid. -/
namespace Go.Proofs.YtmjonlffhhehjaaGreatDoor
open Go.RowKit
theorem OwnU.offRow {w : World} {base g : Nat} {E : TypeId} {v : Value} {L : List Su} (h : OwnU w base E v L) (hg : g < base) (cs : Array Value) : OwnU (w.setRow g cs) base E v L := by
  rcases h.2 with ⟨rfl, h0⟩ | ⟨g', cap, cur, rfl, hb', hg', h1, h2, h3, h4⟩
  · exact ⟨h.1, .inl ⟨rfl, h0⟩⟩
  · exact ⟨h.1, .inr ⟨g', cap, cur, rfl, hb', (setRow_other w g g' cs (by omega)).trans hg', h1, h2, h3, h4⟩⟩
/-- A call answers a line that reads so. -/
def LnR (base : Nat) (T : TypeId) (k : Lk) (e : Ending) (w' : World) : Prop := ∃ p : Ln, e = .returned (.agg (encL p).toArray) ∧ OwnU w' base T p.2.2.2.1 p.2.2.2.2 ∧ keyL p = k
/-- Nothing below a result's box has changed, and the box holds some line. -/
def SBox (g : Nat) (t : TypeId) (n : Nat) (wd w' : World) : Prop := Below g wd w' ∧ ∃ Z : List Value, Has w' g t Z ∧ Z.length = n
theorem SBox.lt {g : Nat} {t : TypeId} {n : Nat} {wd w' : World} (h : SBox g t n wd w') : g < w'.heap.size := by obtain ⟨_, Z, hz, _⟩ := h; exact hz.lt
theorem SBox.step {g : Nat} {t : TypeId} {n : Nat} {wd w' w'' : World} (h : SBox g t n wd w') (hb : Below w'.heap.size w' w'') : SBox g t n wd w'' := by
  have hl := h.lt
  obtain ⟨h1, Z, hz, hn⟩ := h
  exact ⟨h1.trans (hb.mono (Nat.le_of_lt hl)), Z, hz.keepB hb, hn⟩
theorem SBox.store {g : Nat} {t : TypeId} {n : Nat} {wd w' : World} (h : SBox g t n wd w') (l : List Value) (hl : l.length = n) : SBox g t n wd (w'.setRow g l.toArray) := by
  obtain ⟨h1, Z, hz, hn⟩ := h
  exact ⟨below_row h1 (Nat.le_refl _) _, l, hz.rowl _, hl⟩
/-- What the operations of lineOf's last region leave. -/
def phiLo (g : Nat) (x : ByteArray) (v0 : Value) (b : List (BitVec 8)) : Nat → Value → World → Prop
  | 0, v, _ => v = .pointer (some ⟨g, 0, none⟩)
  | 1, v, _ => v = .string x
  | 2, v, _ => v = .pointer (some ⟨g, 2, none⟩)
  | 3, v, _ => v = v0
  | 4, v, w => ∃ k, v = .slice (some ⟨k, 0, none⟩) 1 1 ∧ Cl w k 40 [v0]
  | 5, v, _ => v = .agg (encU (shaU b)).toArray
  | 6, v, _ => v = .pointer (some ⟨g, 2, none⟩)
  | 7, v, _ => v = v0
  | 8, v, w => OwnU w (g + 2) 31 v (namesU b)
  | 9, v, w => ∃ nv, v = .agg (encL (x, false, shaU b, nv, namesU b)).toArray ∧ OwnU w (g + 2) 31 nv (namesU b)
  | _, _, _ => True
theorem phiLo_ext {g : Nat} {x : ByteArray} {v0 : Value} {b : List (BitVec 8)} : ∀ (i : Nat) (v : Value) (w w' : World), phiLo g x v0 b i v w → Ext w w' → phiLo g x v0 b i v w' := by
  intro i v w w' h he
  unfold phiLo at h ⊢
  split at h
  · exact h
  · exact h
  · exact h
  · exact h
  · obtain ⟨k, h1, h2⟩ := h; exact ⟨k, h1, h2.flo (Flo.of (Nat.le_refl _) he)⟩
  · exact h
  · exact h
  · exact h
  · exact h.keep he
  · obtain ⟨nv, h1, h2⟩ := h; exact ⟨nv, h1, h2.keep he⟩
  · trivial
def waitLo (i : Nat) : List Nat := ([[], [0], [], [2], [3], [4], [], [6], [7], [1, 5, 8], [0, 1, 2, 3, 4, 5, 6, 7, 8, 9]] : List (List Nat)).getD i []
def slotsLo : List (Nat × Nat) := [(8, 0), (9, 1), (10, 2), (11, 3), (12, 4), (13, 5), (14, 6), (15, 7), (16, 8), (17, 9)]
theorem floLo : flowB slotsLo waitLo (regOf Tryz.f39.body 3) = true := by kernel_rfl
theorem made_zl (w : World) : Has (w.alloc (.cells zLn 34)) w.heap.size 34 zLn.toList := Has.made' _ _ _ _ (by simp)
set_option maxHeartbeats 8000000 in
set_option maxRecDepth 100000 in
theorem lineOf_any (x : ByteArray) (d : Bool) (q : Option Addr) (c : Nat) (b : List (BitVec 8)) (w : World) (hL : Laid w) (hl : b.length ≤ 1000000) (hs : Bs w (.slice q b.length c) b) :
    Calls Tryz.prog 39 #[.agg #[.string x, .bool d, .slice q b.length c]] w fun e w' => LnR w.heap.size 31 (lineP (x, d, .slice q b.length c, b)) e w' ∧ Below w.heap.size w w' := by
  have hx0 : Has (w.alloc (.cells #[.string x, .bool d, .slice q b.length c] 47)) w.heap.size 47 [.string x, .bool d, .slice q b.length c] := Has.made w _ _
  have HX := Lib.hid (hx0.keepB ((Below.refl _ _).alloc (Nat.le_refl _) (.cells zLn 34)))
  have HZ := Lib.hid (made_zl (w.alloc (.cells #[.string x, .bool d, .slice q b.length c] 47)))
  have HB := Lib.hid (((Below.refl w.heap.size w).alloc (Nat.le_refl _) (.cells #[.string x, .bool d, .slice q b.length c] 47)).alloc (by simp) (.cells zLn 34))
  have HGZ : Hid ((w.alloc (.cells #[.string x, .bool d, .slice q b.length c] 47)).heap.size = w.heap.size + 1) := Lib.hid (by simp)
  rw [HGZ.out] at HZ
  have hzz : zLn.toList = zLv.toList := by rw [zLv_eq]
  rw [hzz, zLv_eq] at HZ
  rw [zLv_eq] at HX HB
  have HL := Lib.hid hL
  have HBS := Lib.hid hs
  clear hx0 hL hs HGZ hzz
  unfold zLv at HX HZ HB
  go_enter Tryz.func39, Tryz.ntmps39
  go_upto_region 1 with fail
  generalize (w.alloc (.cells #[.string x, .bool d, .slice q b.length c] 47)).alloc (.cells #[.string ⟨#[]⟩, .bool false, .int .u8 0, .int .u8 0, .int .u8 0, .int .u8 0, .int .u8 0, .int .u8 0, .int .u8 0, .int .u8 0, .int .u8 0, .int .u8 0, .int .u8 0, .int .u8 0, .int .u8 0, .int .u8 0, .int .u8 0, .int .u8 0, .int .u8 0, .int .u8 0, .int .u8 0, .int .u8 0, .int .u8 0, .int .u8 0, .int .u8 0, .int .u8 0, .int .u8 0, .int .u8 0, .int .u8 0, .int .u8 0, .int .u8 0, .int .u8 0, .int .u8 0, .int .u8 0, .slice none 0 0] 34) = w0 at *
  obtain ⟨g, hg⟩ : ∃ g, g = w.heap.size := ⟨_, rfl⟩
  rw [← hg] at HX HZ ⊢
  have HGE := Lib.hid hg
  clear hg
  obtain ⟨Z, hz1, hz2⟩ : ∃ Z : List Value, Has w0 (g + 1) 34 Z ∧ Z.length = 35 := ⟨_, HZ.out, by kernel_rfl⟩
  clear HZ
  have HZ := Lib.hid hz1
  have HZL := Lib.hid hz2
  clear hz1 hz2
  have c0 := HX.out.cellv (i := 0) rfl
  have c1 := HX.out.cellv (i := 1) rfl
  cases d with
  | true =>
    go_upto_region 2 with fail
    refine wp_region_lit ?_
    try simp only [Act.put, List.setIfInBounds_toArray, List.set_cons_zero, List.set_cons_succ]
    refine lp_pure (v := ?_) (by kernel_rfl) ?_ ?_
    rotate_left
    · go_simp; try with_reducible rfl
    try simp only [Act.put, List.setIfInBounds_toArray, List.set_cons_zero, List.set_cons_succ]
    refine lp_pure (v := ?_) (by kernel_rfl) ?_ ?_
    rotate_left
    · go_simp; try with_reducible rfl
    try simp only [Act.put, List.setIfInBounds_toArray, List.set_cons_zero, List.set_cons_succ]
    refine lp_pure (by kernel_rfl) (build_val 34 _ rfl (encL (x, true, zSu, .slice none 0 0, [])).toArray [(0, .string x), (1, .bool true)] (by kernel_rfl) (built_dir x)) ?_
    try simp only [Act.put, List.setIfInBounds_toArray, List.set_cons_zero, List.set_cons_succ]
    refine wpList_store_row rfl 34 (.tmp 2) (.tmp 7) rfl (g + 1) (encL (x, true, zSu, .slice none 0 0, [])).toArray rfl rfl 34 Z.toArray HZ.out (by rw [szLn, List.size_toArray, encL_len]) (by rw [List.size_toArray, List.size_toArray, encL_len]; exact HZL.out) (encL_all rfl) ?_
    simp only [Act.put]
    refine wpList_nil ?_
    go_wp2_with fail
    (try simp only [Exit.inBlock, Exit.then])
    refine bodyPost_ret (v := .agg (encL (x, true, zSu, .slice none 0 0, [])).toArray) ?_ rfl ⟨⟨(x, true, zSu, .slice none 0 0, []), rfl, OwnU.nil _ _ _, rfl⟩, below_row HB.out (by have := HGE.out; omega) _⟩
    refine results_cell_row rfl _ _ (g + 1) 34 _ (0, 0) _ rfl ?_ Tryz.underlying34 rfl (by rw [List.size_toArray, encL_len]; exact szLn)
    exact HZ.out.rowl _
  | false =>
    go_upto_region 3 with fail
    have HC0 : Hid (∀ w', SBox (g + 1) 34 35 w0.drew w' → w'.cell? ⟨g, 0, none⟩ = some (.string x)) := Lib.hid (fun w' h => ((HX.out.drew).keep h.1 (Nat.lt_succ_self g)).cellv rfl)
    have HC2 : Hid (∀ w', SBox (g + 1) 34 35 w0.drew w' → w'.cell? ⟨g, 2, none⟩ = some (.slice q b.length c)) := Lib.hid (fun w' h => ((HX.out.drew).keep h.1 (Nat.lt_succ_self g)).cellv rfl)
    have HBW : Hid (∀ w', SBox (g + 1) 34 35 w0.drew w' → Below w.heap.size w w') := Lib.hid (fun w' h => HB.out.drew.trans (h.1.mono (by have := HGE.out; omega)))
    have HZD : Hid (Has w0.drew (g + 1) _ _) := Lib.hid HZ.out.drew
    clear HX HZ HB c0 c1
    refine wp_region_flowL slotsLo waitLo (phiLo g x (.slice q b.length c) b) Ext (SBox (g + 1) 34 35 w0.drew) _ 10 rfl (lt_s (lt_s (lt_s (lt_s (lt_s (lt_s (lt_s (lt_s (lt_s (lt_s (lt_0) (by decide)) (by decide)) (by decide)) (by decide)) (by decide)) (by decide)) (by decide)) (by decide)) (by decide)) (by decide)) floLo (by kernel_rfl) (by kernel_rfl) ⟨Below.refl _ _, Z, HZD.out, HZL.out⟩ phiLo_ext ?_ ?_
    · refine lt_s (lt_s (lt_s (lt_s (lt_s (lt_s (lt_s (lt_s (lt_s (lt_s (lt_0) ?_) ?_) ?_) ?_) ?_) ?_) ?_) ?_) ?_) ?_
      · intro f w1 hS hf
        generalize hA : putAll _ _ f = A
        have e1 : A.eval (.tmp 1) = .pointer (some ⟨g, 0, none⟩) := by rw [← hA]; kernel_rfl
        exact flow_val rfl rfl _ (run_fieldE0 (.tmp 1) rfl g e1) hS (Below.refl _ _) rfl
      · intro f w1 hS hf
        generalize hA : putAll _ _ f = A
        have e8 : A.eval (.tmp 8) = f 0 := by rw [← hA]; kernel_rfl
        have h0 : f 0 = _ := hf 0 (by decide)
        exact flow_val rfl rfl _ (run_load1 9 (.tmp 8) rfl ⟨g, 0, none⟩ (e8.trans h0) Tryz.underlying9 rfl (HC0.out _ hS)) hS (Below.refl _ _) rfl
      · intro f w1 hS hf
        generalize hA : putAll _ _ f = A
        have e1 : A.eval (.tmp 1) = .pointer (some ⟨g, 0, none⟩) := by rw [← hA]; kernel_rfl
        exact flow_val rfl rfl _ (run_fieldE2 (.tmp 1) rfl g e1) hS (Below.refl _ _) rfl
      · intro f w1 hS hf
        generalize hA : putAll _ _ f = A
        have e10 : A.eval (.tmp 10) = f 2 := by rw [← hA]; kernel_rfl
        have h2 : f 2 = _ := hf 2 (by decide)
        exact flow_val rfl rfl _ (run_load1 40 (.tmp 10) rfl ⟨g, 2, none⟩ (e10.trans h2) Tryz.underlying40 rfl (HC2.out _ hS)) hS (Below.refl _ _) rfl
      · intro f w1 hS hf
        generalize hA : putAll _ _ f = A
        have e11 : A.eval (.tmp 11) = f 3 := by rw [← hA]; kernel_rfl
        have h3 : f 3 = _ := hf 3 (by decide)
        exact ⟨_, rfl, rfl, fun K hK => wp_one_bs (.tmp 11) rfl q b.length c (e11.trans h3) (hK _ _ (hS.step ((Below.refl w1.heap.size w1).alloc (Nat.le_refl _) _)) ((Below.refl w1.heap.size w1).alloc (Nat.le_refl _) _) ⟨_, rfl, Cl.made w1 _ [_]⟩)⟩
      · intro f w1 hS hf
        generalize hA : putAll _ _ f = A
        have e12 : A.eval (.tmp 12) = f 4 := by rw [← hA]; kernel_rfl
        obtain ⟨k, hv, hk⟩ := hf 4 (by decide)
        have HOF := of_at hk (HBS.out.keep (HBW.out _ hS)) hl (HL.out.keep (HBW.out _ hS) HL.out.size)
        exact ⟨_, rfl, rfl, fun K hK => wp_callO 19 (.tmp 12) _ rfl _ (e12.trans hv) (by kernel_rfl) HOF (fun e w' he => ⟨_, he.1, hK _ _ (hS.step he.2) he.2 rfl⟩)⟩
      · intro f w1 hS hf
        generalize hA : putAll _ _ f = A
        have e1 : A.eval (.tmp 1) = .pointer (some ⟨g, 0, none⟩) := by rw [← hA]; kernel_rfl
        exact flow_val rfl rfl _ (run_fieldE2 (.tmp 1) rfl g e1) hS (Below.refl _ _) rfl
      · intro f w1 hS hf
        generalize hA : putAll _ _ f = A
        have e14 : A.eval (.tmp 14) = f 6 := by rw [← hA]; kernel_rfl
        have h6 : f 6 = _ := hf 6 (by decide)
        exact flow_val rfl rfl _ (run_load1 40 (.tmp 14) rfl ⟨g, 2, none⟩ (e14.trans h6) Tryz.underlying40 rfl (HC2.out _ hS)) hS (Below.refl _ _) rfl
      · intro f w1 hS hf
        generalize hA : putAll _ _ f = A
        have e15 : A.eval (.tmp 15) = f 7 := by rw [← hA]; kernel_rfl
        have h7 : f 7 = _ := hf 7 (by decide)
        obtain ⟨qx, cx, hv, hcx, hqx, hsx⟩ := HBS.out.keep (HBW.out _ hS)
        have hv' : q = qx ∧ c = cx := by injection hv with h1 h2 h3; exact ⟨h1, h3⟩
        obtain ⟨rfl, rfl⟩ := hv'
        have HNM := names_any b q c w1 hcx hqx hl hsx (HL.out.keep (HBW.out _ hS) HL.out.size)
        exact ⟨_, rfl, rfl, fun K hK => wp_callO 79 (.tmp 15) _ rfl _ (e15.trans h7) (by kernel_rfl) HNM (fun e w' he => by
          obtain ⟨⟨v, rfl, ho⟩, hb⟩ := he
          exact ⟨_, rfl, hK _ _ (hS.step hb) hb (ho.less (by have := hS.lt; omega))⟩)⟩
      · intro f w1 hS hf
        generalize hA : putAll _ _ f = A
        have e9 : A.eval (.tmp 9) = f 1 := by rw [← hA]; kernel_rfl
        have e13 : A.eval (.tmp 13) = f 5 := by rw [← hA]; kernel_rfl
        have e16 : A.eval (.tmp 16) = f 8 := by rw [← hA]; kernel_rfl
        have h1 : f 1 = _ := hf 1 (by decide)
        have h5 : f 5 = _ := hf 5 (by decide)
        have h8 : OwnU w1 (g + 2) 31 (f 8) (namesU b) := hf 8 (by decide)
        rw [h1] at e9
        rw [h5] at e13
        obtain ⟨qn, cn, hn, r⟩ := h8.us
        rw [hn] at e16 h8
        exact flow_val rfl rfl _ (build_val 34 _ rfl (encL (x, false, shaU b, .slice qn (namesU b).length cn, namesU b)).toArray [(0, .string x), (2, .agg (encU (shaU b)).toArray), (3, .slice qn (namesU b).length cn)] (by simp only [List.map_toArray, List.map_cons, List.map_nil, e9, e13, e16]) (built_file x (shaU b) qn (namesU b).length cn (namesU b))) hS (Below.refl _ _) ⟨_, rfl, h8⟩
    · intro f w1 hS hf
      obtain ⟨nv, hv, hu⟩ := hf 9 (by decide)
      have hS2 := hS.store (encL (x, false, shaU b, nv, namesU b)) (encL_len _)
      have hB2 := HBW.out _ hS2
      obtain ⟨hS1, Z1, hz, hzl⟩ := hS
      have hone : (encL (x, false, shaU b, nv, namesU b)).toArray.all (·.oneCell') = true := encL_all (p := (x, false, shaU b, nv, namesU b)) hu.us.one
      have hsz : (Tryz.prog.info? 34).map (·.size) = some (encL (x, false, shaU b, nv, namesU b)).toArray.size := by rw [szLn, List.size_toArray, encL_len]
      have hsz2 : Z1.toArray.size = (encL (x, false, shaU b, nv, namesU b)).toArray.size := by rw [List.size_toArray, List.size_toArray, encL_len]; exact hzl
      have HRW : Hid (Has (w1.setRow (g + 1) (encL (x, false, shaU b, nv, namesU b)).toArray) (g + 1) 34 (encL (x, false, shaU b, nv, namesU b))) := Lib.hid (hz.rowl _)
      have HU : Hid (OwnU (w1.setRow (g + 1) (encL (x, false, shaU b, nv, namesU b)).toArray) w.heap.size 31 nv (namesU b)) := Lib.hid ((hu.offRow (Nat.lt_succ_self _) _).less (by have := HGE.out; omega))
      have HBF := Lib.hid hB2
      generalize hA : putAll _ _ f = A
      have e2 : A.eval (.tmp 2) = .pointer (some ⟨g + 1, 0, none⟩) := by rw [← hA]; kernel_rfl
      have e17 : A.eval (.tmp 17) = f 9 := by rw [← hA]; kernel_rfl
      refine wpOp_step (show _ = some _ from rfl) (by kernel_rfl) (fun K hK => ?_)
      refine wp_store_row 34 (.tmp 2) (.tmp 17) rfl (g + 1) (encL (x, false, shaU b, nv, namesU b)).toArray e2 (e17.trans hv) 34 Z1.toArray hz hsz hsz2 hone (hK _ _ ⟨hS2, ?_⟩)
      subst hA
      clear hone hsz hsz2 e2 e17 hS2 hB2 hS1 hz hf hu
      simp only [slotsLo, putAll, hv, Act.put, List.setIfInBounds_toArray, List.set_cons_zero, List.set_cons_succ]
      clear hv
      go_wp2_with fail
      (try simp only [Exit.inBlock, Exit.then])
      refine bodyPost_ret (v := .agg (encL (x, false, shaU b, nv, namesU b)).toArray) ?_ rfl ⟨⟨(x, false, shaU b, nv, namesU b), rfl, HU.out, rfl⟩, HBF.out⟩
      exact results_cell_row rfl _ _ (g + 1) 34 _ (0, 0) _ rfl HRW.out Tryz.underlying34 rfl (by rw [List.size_toArray, encL_len]; exact szLn)
end Go.Proofs.YtmjonlffhhehjaaGreatDoor
/- Rows of unlike kinds do not lie in one block. No condition. -/
namespace Go.Proofs.YtmjonlffhhehjaaGreatDoor
open Go.RowKit
/-- Rows of unlike kinds do not lie in one block. -/
theorem own_apart {w : World} {b1 b2 e1 e2 k1 k2 n1 n2 : Nat} {v1 v2 : Value} {x1 x2 : List Value} (h1 : w.ownsRow b1 e1 k1 v1 n1 x1) (h2 : w.ownsRow b2 e2 k2 v2 n2 x2) (he : e1 ≠ e2) : v1.ownBlock = none ∨ v1.ownBlock ≠ v2.ownBlock := by
  rcases h1.2 with ⟨rfl, _⟩ | ⟨g1, c1, u1, rfl, _, hg1, _⟩
  · exact .inl rfl
  · rcases h2.2 with ⟨rfl, _⟩ | ⟨g2, c2, u2, rfl, _, hg2, _⟩
    · right; simp [Value.ownBlock]
    · right
      intro h
      have : g1 = g2 := by simpa [Value.ownBlock] using h
      subst this
      rw [hg1] at hg2
      injection hg2 with hg2
      injection hg2 with _ ht
      exact he ht
end Go.Proofs.YtmjonlffhhehjaaGreatDoor
