/- Contract: recipe's getSums. Conditions: at most 10^12 bytes, at most 10000 sums asked for; a nil slice has no room. -/
import Derived.Test.YtmjonlffhhehjaaGreatDoorBo2
import Derived.Test.YtmjonlffhhehjaaGreatDoorBa1
import Derived.Test.YtmjonlffhhehjaaGreatDoorBo1
import Derived.Test.YtmjonlffhhehjaaGreatDoorBu1
import Derived.Shelf.SlGeneric
import Derived.Shelf.SlSortCmp.NoneTotal
import Derived.Shelf.SlicesE.Clone
import Derived.Shelf.SlicesQ.Equal
import Derived.Shelf.SlLaysE0
import Derived.Shelf.SlLaysQ
import Derived.Test.YtmjonlffhhehjaaGreatDoorProg
import Derived.KernelRfl
import Derived.Test.YtmjonlffhhehjaaGreatDoorBo3
import Derived.Test.YtmjonlffhhehjaaGreatDoorRows
import Derived.Test.YtmjonlffhhehjaaGreatDoorBc1
import Derived.Lay
import Derived.Lib.LaidTab
import Derived.ProofKit
import Derived.LaidMore
import Derived.OpenShut
import Derived.Stop.Joined
import Derived.Stop.LaidErr
namespace Go.Proofs.YtmjonlffhhehjaaGreatDoor
open Go.RowKit
/-- The sum at the beginning. -/
def suAt (x : List (BitVec 8)) : Su := if h : 32 ≤ x.length then ⟨x.take 32, by rw [List.length_take]; omega⟩ else zSu
theorem suAt_of {x : List (BitVec 8)} (h : 32 ≤ x.length) : (suAt x).1 = x.take 32 := by unfold suAt; rw [dif_pos h]
/-- As many sums. -/
def cutS (b : List (BitVec 8)) (n : Nat) : List Su := (List.range n).map fun i => suAt (b.drop (i * 32))
theorem cutS_zero (b : List (BitVec 8)) : cutS b 0 = [] := rfl
theorem cutS_succ (b : List (BitVec 8)) (n : Nat) : cutS b (n + 1) = cutS b n ++ [suAt (b.drop (n * 32))] := by unfold cutS; rw [List.range_succ, List.map_append]; rfl
theorem cutS_len (b : List (BitVec 8)) (n : Nat) : (cutS b n).length = n := by unfold cutS; simp
def zrowU (n : Nat) : List Value := List.replicate (n * 32) (.int .u8 0)
theorem row_splice (L : List Su) (n : Nat) (s : Su) : (rowU L ++ zrowU (n + 1)).take (L.length * 32) ++ (encU s ++ (rowU L ++ zrowU (n + 1)).drop (L.length * 32 + 32)) = rowU (L ++ [s]) ++ zrowU n := by
  rw [List.take_left' (by rw [rowU_len]), show L.length * 32 + 32 = (rowU L).length + 32 by rw [rowU_len], List.drop_append, List.drop_of_length_le (by omega), List.nil_append, rowU_app, rowU_one]
  have e : (rowU L).length + 32 - (rowU L).length = 32 := by omega
  rw [e, List.append_assoc]
  congr 2
  unfold zrowU
  rw [List.drop_replicate]
  congr 1
  omega
theorem zrU_row (n : Nat) : (madeCells (Array.replicate 32 (Value.int .u8 0)) (n * 32)).toList = zrowU n := by
  unfold zrowU
  apply List.ext_getElem?
  intro j
  by_cases hj : j < n * 32
  · rw [List.getElem?_replicate, if_pos hj, List.getElem?_eq_getElem (by rw [Array.length_toList, size_madeCells]; exact hj)]
    have hm : j % 32 < 32 := Nat.mod_lt _ (by decide)
    simp [madeCells, hm]
  · rw [List.getElem?_eq_none (by rw [Array.length_toList, size_madeCells]; omega), List.getElem?_eq_none (by simp; omega)]
theorem runS_made (n : Nat) (hn : n ≤ 1000000) (w : World) :
    (Instr.makeSlice 32 (.int .i64 (n : Int)) (.int .i64 (n : Int))).run Tryz.prog w = .ok (.slice (some ⟨w.heap.size, 0, none⟩) n n) (w.alloc (.cells (madeCells (Array.replicate 32 (Value.int .u8 0)) (n * 32)) 31)) := by
  obtain ⟨i0, hi, hz0, hz1, hz2⟩ := info_parts elSum.2.2
  have := run_make (P := Tryz.prog) w 32 31 i0 _ elSum.1 hi hz0 .i64 .i64 n n (by omega) (by omega) (by rw [hz2]; omega) (by omega)
  rw [hz1, show (Value.agg (Array.replicate 32 (Value.int .u8 0))).cells = Array.replicate 32 (Value.int .u8 0) from rfl] at this
  simpa using this
theorem OwnU.of_has {w : World} {base g : Nat} {E : TypeId} {L : List Su} (hb : base ≤ g) (hl : L.length ≤ 1000000) (h : Has w g E (rowU L)) : OwnU w base E (.slice (some ⟨g, 0, none⟩) L.length L.length) L :=
  ⟨by rw [rowU_len], .inr ⟨g, L.length, (rowU L).toArray, rfl, hb, h, Nat.le_refl _, by have : (1000000 : Nat) ≤ maxLen := (by decide); omega, by simp [rowU_len], by rw [← rowU_len L]; simp⟩⟩
/-- What getSums answers. -/
def GaveS (u w : World) (b : List (BitVec 8)) (n : Nat) (e : Ending) (w' : World) : Prop :=
  if n * 32 ≤ b.length then ∃ v r, e = .returned (.tuple #[v, r, .int .i64 0]) ∧ OwnU w' w.heap.size 31 v (cutS b n) ∧ Bs u r (b.drop (n * 32)) ∧ Below w.heap.size w w'
  else e = .returned (.tuple #[.slice none 0 0, .slice none 0 0, .int .i64 3]) ∧ w = w'
theorem GaveS.no {u w : World} {b : List (BitVec 8)} {n : Nat} (h : ¬ n * 32 ≤ b.length) : GaveS u w b n (.returned (.tuple #[.slice none 0 0, .slice none 0 0, .int .i64 3])) w := by unfold GaveS; rw [if_neg h]; exact ⟨rfl, rfl⟩
theorem GaveS.yes {u w w' : World} {b : List (BitVec 8)} {n : Nat} {v r : Value} (h : n * 32 ≤ b.length) (ho : OwnU w' w.heap.size 31 v (cutS b n)) (hr : Bs u r (b.drop (n * 32))) (hb : Below w.heap.size w w') : GaveS u w b n (.returned (.tuple #[v, r, .int .i64 0])) w' := by unfold GaveS; rw [if_pos h]; exact ⟨v, r, rfl, ho, hr, hb⟩
theorem results_tmp3 {fn : Func} {p u v : Tmp} (h : fn.results = #[.tmp p, .tmp u, .tmp v]) (tmps : Array Value) (w : World) {x y z : Value} (hx : tmps.getD p undef = x) (hy : tmps.getD u undef = y) (hz : tmps.getD v undef = z) :
    (results fn tmps).run Tryz.prog w = .ok (.tuple #[x, y, z]) w := by
  have hx' : tmps[p]?.getD undef = x := by simpa using hx
  have hy' : tmps[u]?.getD undef = y := by simpa using hy
  have hz' : tmps[v]?.getD undef = z := by simpa using hz
  simp [results, h, hx', hy', hz']
set_option maxHeartbeats 8000000 in
set_option maxRecDepth 100000 in
theorem getSums_any (b : List (BitVec 8)) (q : Option Addr) (c n : Nat) (u w : World) (hu : Below u.heap.size u w) (hc : b.length ≤ c) (hq : q = none → c = 0) (hl : b.length ≤ 1000000000000) (hn : n ≤ 10000) (hs : Sees u u.heap.size q (b.map u8v)) :
    Calls Tryz.prog 123 #[.slice q b.length c, .int .i64 (n : Int)] w (GaveS u w b n) := by
  have HS := Lib.hid hs
  have HU := Lib.hid hu
  clear hs hu
  obtain ⟨m, hm⟩ : ∃ m, m = b.length / 32 := ⟨_, rfl⟩
  have kw : IntKind.i64.wrap ((b.length : Int) / 32) = (m : Int) := by
    rw [hm, wraps_i64 _ (by omega) (by omega)]; omega
  go_enter Tryz.func123, Tryz.ntmps123
  by_cases h : n * 32 ≤ b.length
  case neg =>
    have k : (n : Int) > (m : Int) := by omega
    go_wp2_with fail
    (try simp only [Exit.inBlock, Exit.then])
    refine bodyPost_ret (v := .tuple #[.slice none 0 0, .slice none 0 0, .int .i64 3]) ?_ rfl (GaveS.no h)
    exact results_tmp3 rfl _ _ rfl rfl rfl
  have k : ¬ (n : Int) > (m : Int) := by omega
  have hmk := runS_made n (by omega) w
  have HR0 : Hid (Has (w.alloc (.cells (madeCells (Array.replicate 32 (Value.int .u8 0)) (n * 32)) 31)) w.heap.size 31 (rowU (cutS b 0) ++ zrowU n)) := Lib.hid (by
    have h := Has.made w 31 (madeCells (Array.replicate 32 (Value.int .u8 0)) (n * 32))
    rw [zrU_row] at h
    exact h)
  have HB0 := Lib.hid ((Below.refl w.heap.size w).alloc (Nat.le_refl _) (.cells (madeCells (Array.replicate 32 (Value.int .u8 0)) (n * 32)) 31))
  go_upto_region 5 with fail
  clear hmk kw k
  generalize w.alloc (.cells (madeCells (Array.replicate 32 (Value.int .u8 0)) (n * 32)) 31) = w0 at *
  obtain ⟨g, hg⟩ : ∃ g, g = w.heap.size := ⟨_, rfl⟩
  rw [← hg] at HR0 ⊢
  have HGE := Lib.hid hg
  clear hg
  have HBS0 : Hid (Bs u (.slice q b.length c) b) := Lib.hid ⟨q, c, rfl, hc, hq, HS.out⟩
  go_loopw [0, 17] (fun vb vi wr => ∃ j : Nat, j ≤ n ∧ vi = .int .i64 j ∧ Bs u vb (b.drop (j * 32)) ∧ Has wr g 31 (rowU (cutS b j) ++ zrowU (n - j)) ∧ Below w.heap.size w wr) (fun _ vi _ => n - (intOf vi).toNat)
  case atStart => exact ⟨0, by omega, rfl, by rw [Nat.zero_mul, List.drop_zero]; exact HBS0.out, HR0.out, HB0.out⟩
  case round =>
    clear HR0 HB0
    rename_i wr
    obtain ⟨j, hj, rfl, hbs, hR, hB⟩ := hrel
    have HBS := Lib.hid hbs
    have HR := Lib.hid hR
    have HB := Lib.hid hB
    clear hbs hR hB
    by_cases hlt : j < n
    · obtain ⟨qb, cb, rfl, hcb, hqb, hsb⟩ := HBS.out
      obtain ⟨x, hx⟩ : ∃ x, x = b.drop (j * 32) := ⟨_, rfl⟩
      have hxl : 32 ≤ x.length := by rw [hx, List.length_drop]; omega
      have HXD : Hid (b.drop ((j + 1) * 32) = x.drop 32) := Lib.hid (by rw [hx, List.drop_drop]; congr 1; omega)
      have HCT : Hid (cutS b (j + 1) = cutS b j ++ [suAt x]) := Lib.hid (by rw [cutS_succ, ← hx])
      have HXB : Hid (x.length ≤ 1000000000000) := Lib.hid (by rw [hx, List.length_drop]; omega)
      rw [← hx] at hcb hsb ⊢
      obtain ⟨ab, rfl, hab, hcell⟩ := (hsb.keep (HU.out.trans (HB.out.mono HU.out.size))).get (by rw [List.length_map]; omega)
      have HSRC : Hid (∀ i v, (encU (suAt x))[i]? = some v → wr.cell? (ab.add i) = some v) := Lib.hid (fun i v hv => by
        refine hcell i v ?_
        have hi := (List.getElem?_eq_some_iff.1 hv).1
        rw [encU_len] at hi
        unfold encU at hv
        rw [suAt_of hxl, List.getElem?_map, List.getElem?_take, if_pos hi] at hv
        rw [List.getElem?_map]; exact hv)
      have hfit : j * 32 + (encU (suAt x)).length ≤ (rowU (cutS b j) ++ zrowU (n - j)).toArray.size := by
        rw [encU_len, List.size_toArray, List.length_append, rowU_len, cutS_len]
        unfold zrowU
        rw [List.length_replicate]; omega
      have HFIT := Lib.hid hfit
      have HN : Hid ((encU (suAt x)).length = Nat.min x.length 32) := Lib.hid (by rw [encU_len]; exact (Nat.min_eq_right hxl).symm)
      have HS2 := Lib.hid hsb
      have HC2 := Lib.hid hcb
      have HXL := Lib.hid hxl
      have hjj : (j : Int) < (n : Int) := by omega
      have kll : j < 1000000 := by omega
      have k32 : (32 : Int) ≤ (x.length : Int) := by omega
      clear hx hfit hcell hsb hcb hqb hab HBS
      go_upto_region 7 with fail
      refine wp_region_lit ?_
      try simp only [Act.put, List.setIfInBounds_toArray, List.set_cons_zero, List.set_cons_succ]
      refine lp_pure (v := ?_) (by kernel_rfl) ?_ ?_
      rotate_left
      · go_simp; try with_reducible rfl
      try simp only [Act.put, List.setIfInBounds_toArray, List.set_cons_zero, List.set_cons_succ]
      refine lp_pure (v := ?_) (by kernel_rfl) ?_ ?_
      rotate_left
      · go_simp; try with_reducible rfl
      try simp only [Act.put, List.setIfInBounds_toArray, List.set_cons_zero, List.set_cons_succ]
      refine lp_pure (v := ?_) (by kernel_rfl) ?_ ?_
      rotate_left
      · go_simp; try with_reducible rfl
      try simp only [Act.put, List.setIfInBounds_toArray, List.set_cons_zero, List.set_cons_succ]
      refine lp_pure (v := ?_) (by kernel_rfl) ?_ ?_
      rotate_left
      · go_simp; try with_reducible rfl
      try simp only [Act.put, List.setIfInBounds_toArray, List.set_cons_zero, List.set_cons_succ]
      refine lp_pure (v := ?_) (by kernel_rfl) ?_ ?_
      rotate_left
      · go_simp; try with_reducible rfl
      try simp only [Act.put, List.setIfInBounds_toArray, List.set_cons_zero, List.set_cons_succ]
      refine lp_pure (v := ?_) (by kernel_rfl) ?_ ?_
      rotate_left
      · go_simp; try with_reducible rfl
      try simp only [Act.put, List.setIfInBounds_toArray, List.set_cons_zero, List.set_cons_succ]
      refine wpList_copy_own rfl (.tmp 24) (.tmp 25) 40 40 rfl 5 Tryz.underlying40 (by kernel_rfl) g (j * 32) 32 32 ab x.length cb rfl rfl _ 31 HR.out (encU (suAt x)) HN.out HSRC.out HFIT.out (encU_one _) ?_
      try simp only [Act.put, List.setIfInBounds_toArray, List.set_cons_zero, List.set_cons_succ]
      have e1 : (List.take (j * 32) (rowU (cutS b j) ++ zrowU (n - j)) ++ (encU (suAt x) ++ List.drop (j * 32 + (encU (suAt x)).length) (rowU (cutS b j) ++ zrowU (n - j)))) = rowU (cutS b (j + 1)) ++ zrowU (n - (j + 1)) := by
        have h := row_splice (cutS b j) (n - (j + 1)) (suAt x)
        rw [cutS_len, show n - (j + 1) + 1 = n - j by omega] at h
        rw [encU_len, h, HCT.out]
      rw [e1, show goInt (((encU (suAt x)).length : Nat) : Int) = .int .i64 32 from by rw [encU_len]; rfl]
      have HR2 : Hid (Has (wr.setRow g (rowU (cutS b (j + 1)) ++ zrowU (n - (j + 1))).toArray) g 31 (rowU (cutS b (j + 1)) ++ zrowU (n - (j + 1)))) := Lib.hid (HR.out.rowl _)
      have HB2 : Hid (Below w.heap.size w (wr.setRow g (rowU (cutS b (j + 1)) ++ zrowU (n - (j + 1))).toArray)) := Lib.hid (below_row HB.out (by have := HGE.out; omega) _)
      clear e1
      generalize wr.setRow g (rowU (cutS b (j + 1)) ++ zrowU (n - (j + 1))).toArray = w2 at *
      have c2 : (Instr.slice 40 (.slice (some ab) x.length cb) (some (.int .i64 32)) none none).run Tryz.prog w2 = .ok (.slice (cutQ (some ab) cb 32) (x.length - 32) (cb - 32)) w2 := cut_from (some ab) x.length cb 32 HXL.out w2
      go_wp2_with fail
      go_roundw
      case rel =>
        refine ⟨j + 1, by omega, by go_num, ?_, HR2.out, HB2.out⟩
        rw [HXD.out]
        exact Bs.cut HC2.out (fun h => by cases h) HS2.out 32 HXL.out
      case measure => simp [intOf]; omega
    · have hjn : j = n := by omega
      subst hjn
      have hjj : ¬ (j : Int) < (j : Int) := by omega
      go_wp2_with fail
      refine bodyPost_ret (v := .tuple #[.slice (some ⟨g, 0, none⟩) j j, u0, .int .i64 0]) (results_tmp3 rfl _ _ rfl rfl rfl) rfl (GaveS.yes h ?_ HBS.out HB.out)
      have ho := OwnU.of_has (w := wr) (base := w.heap.size) (L := cutS b j) (E := 31) (g := g) (by have := HGE.out; omega) (by rw [cutS_len]; omega) (by have h := HR.out; rw [Nat.sub_self] at h; unfold zrowU at h; rw [Nat.zero_mul] at h; simpa using h)
      rw [cutS_len] at ho
      exact ho
end Go.Proofs.YtmjonlffhhehjaaGreatDoor
/- Contract: num.Get. Condition: fewer than 2^63 bytes. -/
namespace Go.Proofs.YtmjonlffhhehjaaGreatDoor
open Go.RowKit
/-- What Get hands back: a number, how many bytes, an error. -/
def tri (r : Nat × Nat × Nat) : Value := .tuple #[.int .u64 (r.1 : Int), .int .i64 (r.2.1 : Int), .int .i64 (r.2.2 : Int)]
theorem pow_step (k a d : Nat) (hk : k ≤ 9) (ha : a < 128 ^ k) (hd : d < 128) (h9 : k = 9 → d ≤ 1) :
    a + d * 128 ^ k < 18446744073709551616 ∧ d * 128 ^ k < 18446744073709551616 ∧ (k ≤ 8 → a + d * 128 ^ k < 128 ^ (k + 1)) := by
  by_cases h : k = 9
  · subst h
    have h1 : (128 : Nat) ^ 9 = 9223372036854775808 := by decide +kernel
    have := h9 rfl
    rw [h1] at ha ⊢
    omega
  · have h1 : (128 : Nat) ^ (k + 1) ≤ 128 ^ 9 := Nat.pow_le_pow_right (by omega) (by omega)
    have h2 : (128 : Nat) ^ 9 = 9223372036854775808 := by decide +kernel
    have h3 : d * 128 ^ k ≤ 127 * 128 ^ k := Nat.mul_le_mul_right _ (by omega)
    rw [Nat.pow_succ] at h1 ⊢
    omega
set_option maxHeartbeats 1000000 in
theorem get_any (b : List (BitVec 8)) (q : Option Addr) (c : Nat) (w : World) (hs : Sees w w.heap.size q (b.map u8v)) (hl : b.length < 9223372036854775807) :
    Calls Tryz.prog 121 #[.slice q b.length c] w fun e w' => e = .returned (tri (getL b)) ∧ w = w' := by
  have HS := Lib.hid hs
  clear hs
  go_enter Tryz.func121, Tryz.ntmps121
  go_wp2_with fail
  go_loop [2, 9] (fun v i => ∃ k a : Nat, k ≤ b.length ∧ i = .int .i64 k ∧ v = .int .u64 a ∧ k ≤ 9 ∧ a < 128 ^ k ∧ getL b = getA k a (b.drop k)) (fun _ i => b.length - (intOf i).toNat)
  case atStart => exact ⟨0, 0, by omega, rfl, rfl, by omega, by omega, rfl⟩
  case round =>
    obtain ⟨k, a, hk, rfl, rfl, h9, ha, hg⟩ := hrel
    by_cases hlt : k < b.length
    · obtain ⟨p, rfl, _, hcell⟩ := HS.out (by simp; omega)
      have hx := hcell k _ (at8_of b k hlt)
      rw [drop_at8 b k hlt] at hg
      have hm := (at8 b k).isLt
      have g1 := getA_bad k a (at8 b k) (b.drop (k + 1))
      have g2 := getA_more k a (at8 b k) (b.drop (k + 1))
      have g3 := getA_long k a (at8 b k) (b.drop (k + 1))
      have g4 := getA_end k a (at8 b k) (b.drop (k + 1))
      rw [← hg] at g1 g2 g3 g4
      unfold B at hx
      generalize (at8 b k).toNat = m at *
      have G1 := Lib.hid g1
      have G2 := Lib.hid g2
      have G3 := Lib.hid g3
      have G4 := Lib.hid g4
      clear hg g1 g2 g3 g4 hcell
      have hkb : (k : Int) ≤ 9 := by omega
      by_cases hbad : k = 9 ∧ 1 < m
      · have HG := Lib.hid (G1.out hbad)
        clear G1 G2 G3 G4
        have e9 : ((k : Int) == 9) = true := by rw [beq_iff_eq]; omega
        have k1 : (1 : Int) < (m : Int) := by omega
        clear hbad h9 ha
        go_wp2_with fail
        go_ret3
        exact ⟨by rw [HG.out]; rfl, rfl⟩
      · have hd1 : k = 9 → m % 128 ≤ 1 := fun h => by omega
        obtain ⟨p1, p2, p3⟩ := pow_step k a (m % 128) h9 ha (Nat.mod_lt _ (by omega)) hd1
        have hd2 := andNot128 m (by omega)
        have sh := shl7w (m % 128) k p2
        have jo := u64_join k a (m % 128) ha p1
        have an := u8_and128 m (by omega)
        have hdn : m % 128 < 128 := Nat.mod_lt _ (by omega)
        have hmd : m < 128 → m % 128 = m := fun h => Nat.mod_eq_of_lt h
        obtain ⟨d, hd⟩ : ∃ d, d = m % 128 := ⟨_, rfl⟩
        rw [← hd] at p1 p2 p3 hd2 sh jo hdn hmd
        have G2 : Hid (¬(k = 9 ∧ 1 < m) → 128 ≤ m → getL b = getA (k + 1) (a + d * 128 ^ k) (b.drop (k + 1))) := Lib.hid (by rw [hd]; exact G2.out)
        have G4 : Hid (¬(k = 9 ∧ 1 < m) → ¬128 ≤ m → ¬(m = 0 ∧ 0 < k) → getL b = (a + d * 128 ^ k, k + 1, 0)) := Lib.hid (fun h1 h2 h3 => by rw [hmd (by omega)]; exact G4.out h1 h2 h3)
        clear hd hmd hd1
        generalize d * 128 ^ k = t at *
        generalize a + t = a' at *
        have P3 := Lib.hid p3
        clear p3 p2
        by_cases hmore : 128 ≤ m
        · have HG := Lib.hid (G2.out hbad hmore)
          clear G1 G2 G3 G4
          have e9 : ((k : Int) == 9) = false := by rw [beq_eq_false_iff_ne]; omega
          have hk8 : k ≤ 8 := by omega
          rw [show m / 128 * 128 = 128 by omega] at an
          clear hbad hmore
          go_wp2_with fail
          go_round
          case rel => exact ⟨k + 1, a', by omega, by go_num, rfl, by omega, P3.out hk8, HG.out⟩
          case measure => simp [intOf]; omega
        · rw [show m / 128 * 128 = 0 by omega] at an
          by_cases hlong : m = 0 ∧ 0 < k
          · have HG := Lib.hid (G3.out hlong)
            clear G1 G2 G3 G4
            have e0 : ((m : Int) == 0) = true := by rw [beq_iff_eq]; omega
            have e1 : (0 : Int) < (k : Int) := by omega
            have e3 : ¬ (1 : Int) < (m : Int) := by omega
            clear hbad hlong hmore P3
            go_wp2_with fail
            all_goals
              go_ret3
              exact ⟨by rw [HG.out]; rfl, rfl⟩
          · have HG := Lib.hid (G4.out hbad hmore hlong)
            clear G1 G2 G3 G4
            by_cases hk9 : k = 9
            · have e9 : ((k : Int) == 9) = true := by rw [beq_iff_eq]; omega
              have e0 : ((m : Int) == 0) = false := by rw [beq_eq_false_iff_ne]; omega
              have e3 : ¬ (1 : Int) < (m : Int) := by omega
              clear hbad hlong hmore P3 hk9
              go_wp2_with fail
              go_ret3
              exact ⟨by rw [HG.out]; rfl, rfl⟩
            · have e9 : ((k : Int) == 9) = false := by rw [beq_eq_false_iff_ne]; omega
              by_cases hm0 : m = 0
              · have e0 : ((m : Int) == 0) = true := by rw [beq_iff_eq]; omega
                have e1 : ¬ (0 : Int) < (k : Int) := by omega
                clear hbad hlong hmore P3 hk9 hm0
                go_wp2_with fail
                go_ret3
                exact ⟨by rw [HG.out]; rfl, rfl⟩
              · have e0 : ((m : Int) == 0) = false := by rw [beq_eq_false_iff_ne]; omega
                clear hbad hlong hmore P3 hk9 hm0
                go_wp2_with fail
                go_ret3
                exact ⟨by rw [HG.out]; rfl, rfl⟩
    · have hkl : k = b.length := by omega
      rw [hkl, List.drop_length, getA_nil] at hg
      have HG := Lib.hid hg
      have k1 : ¬ (k : Int) < (b.length : Int) := by omega
      clear hg hlt hkl
      go_wp2_with fail
      go_ret3
      exact ⟨by rw [HG.out]; rfl, rfl⟩
end Go.Proofs.YtmjonlffhhehjaaGreatDoor
/- Contract: bytes.Clone. Condition: a nil slice has no capacity. -/
namespace Go.Proofs.YtmjonlffhhehjaaGreatDoor
open Go.RowKit
set_option maxHeartbeats 400000 in
theorem clone_any (x : List (BitVec 8)) (q : Option Addr) (c : Nat) (w : World) (hx : Sees w w.heap.size q (x.map u8v)) (hq : q = none → c = 0) (hl : x.length ≤ 140737488355328) :
    Calls Tryz.prog 122 #[.slice q x.length c] w (Gives w x) := by
  have HX := Lib.hid hx
  have HQ := Lib.hid hq
  have HL := Lib.hid hl
  have hn := run_eql_slice_nil (P := Tryz.prog) w 40 5 q x.length c Tryz.underlying40
  clear hx hq hl
  rcases q with _ | a
  · have hx0 : x = [] := by
      rcases x with _ | ⟨y, l⟩
      · rfl
      · obtain ⟨a, h1, _⟩ := HX.out.get (by simp)
        cases h1
    subst hx0
    simp only [Option.isNone_none, List.length_nil] at hn
    go_enter Tryz.func122, Tryz.ntmps122
    go_wp2_with fail
    go_ret
    exact ⟨_, rfl, Bs.nil _, Below.refl _ _⟩
  · simp only [Option.isNone_some] at hn
    have ho : (w.alloc (.cells #[] 5)).ownsRow w.heap.size 5 1 (.slice (some ⟨w.heap.size, 0, none⟩) 0 0) 0 [] := World.ownsRow_made w #[] 0 (Nat.le_refl _) (by unfold maxLen; omega) (by simp)
    have HO := Lib.hid ho
    have HS : Hid (Sees (w.alloc (.cells #[] 5)) w.heap.size (some a) (x.map u8v)) := Lib.hid (HX.out.keep ((Below.refl _ _).alloc (Nat.le_refl _) _))
    have HB : Hid (Below w.heap.size w (w.alloc (.cells #[] 5))) := Lib.hid ((Below.refl _ _).alloc (Nat.le_refl _) _)
    clear ho
    go_enter Tryz.func122, Tryz.ntmps122
    go_wp2_with (at_builtin; refine wpList_append_sees rfl _ _ rfl w.heap.size _ 0 [] rfl HO.out (some a) x c w.heap.size rfl HQ.out HS.out (by have := HL.out; omega) HB.out.size ?_; intro v' w' h1 h2; have H1 := Lib.hid h1; have H2 := Lib.hid (HB.out.trans h2); clear h1 h2)
    go_ret
    have h1 := H1.out
    rw [List.nil_append] at h1
    exact ⟨_, rfl, Bs.own h1, H2.out⟩
end Go.Proofs.YtmjonlffhhehjaaGreatDoor
/- Contract: num.GetBytes. Conditions: fewer than 2^47 bytes; a nil slice has no capacity. -/
namespace Go.Proofs.YtmjonlffhhehjaaGreatDoor
open Go.RowKit
/-- What GetBytes answers. -/
def gbL (b : List (BitVec 8)) (most : Int) : List (BitVec 8) × Nat × Nat :=
  if (getL b).2.2 ≠ 0 then ([], 0, (getL b).2.2)
  else if most < 0 ∨ most < ((getL b).1 : Int) then ([], 0, 2)
  else if b.length - (getL b).2.1 < (getL b).1 then ([], 0, 3)
  else ((b.drop (getL b).2.1).take (getL b).1, (getL b).2.1 + (getL b).1, 0)
theorem getL_bd (b : List (BitVec 8)) : (getL b).1 < 18446744073709551616 ∧ (getL b).2.1 ≤ b.length ∧ ((getL b).2.2 = 0 ∨ (getL b).2.2 = 2 ∨ (getL b).2.2 = 3) := by
  rcases getA_err b 0 0 with h | ⟨h, h1, h2⟩ | ⟨h, h1, h2⟩
  · have := getL_back b (getL b).1 (getL b).2.1 (by rw [show 0 = (getL b).2.2 from h.symm])
    exact ⟨this.2.2.2, this.2.1, .inl h⟩
  · have e1 : (getL b).1 = 0 := h1
    have e2 : (getL b).2.1 = 0 := h2
    exact ⟨by omega, by omega, .inr (.inl h)⟩
  · have e1 : (getL b).1 = 0 := h1
    have e2 : (getL b).2.1 = 0 := h2
    exact ⟨by omega, by omega, .inr (.inr h)⟩
def GaveB (w : World) (r : List (BitVec 8) × Nat × Nat) (e : Ending) (w' : World) : Prop := ∃ v, e = .returned (.tuple #[v, .int .i64 (r.2.1 : Int), .int .i64 (r.2.2 : Int)]) ∧ Bs w' v r.1 ∧ Below w.heap.size w w'
theorem cut_midG (a : Option Addr) (n cap f k : Nat) (h1 : f + k ≤ cap) (w : World) :
    (Instr.slice 40 (.slice a n cap) (some (.int .i64 (f : Int))) (some (.int .i64 ((f : Int) + (k : Int)))) none).run Tryz.prog w = .ok (.slice (cutQ a cap f) k (cap - f)) w := by
  obtain ⟨i0, hi, _, hz1, _⟩ := info_parts u8_info
  have he : Tryz.prog.elem 40 = 5 := by kernel_rfl
  have e1 : ((f : Int) + (k : Int)).toNat = f + k := by omega
  rw [run_slice_lh (ht := by rw [he]; exact Tryz.underlying40) (h0 := by omega) (h1 := by omega) (h2 := by omega), he, e1]
  simp [sizeOf, typeInfo, hi, hz1, sliced, cutQ]
theorem mid_sees {w : World} {b : List (BitVec 8)} {q : Option Addr} {c : Nat} (hs : Sees w w.heap.size q (b.map u8v)) (hc : b.length ≤ c) (f k : Nat) : Sees w w.heap.size (cutQ q c f) (((b.drop f).take k).map u8v) := by
  rw [List.map_take, List.map_drop]
  exact (hs.cut (k := f) (cap := c) (by simpa using hc)).head k
set_option maxHeartbeats 2000000 in
theorem getBytes_any (b : List (BitVec 8)) (q : Option Addr) (c : Nat) (most : Int) (w : World) (hs : Sees w w.heap.size q (b.map u8v)) (hc : b.length ≤ c) (hq : q = none → c = 0) (hl : b.length ≤ 70368744177664)
    (m0 : -9223372036854775808 ≤ most) (m1 : most ≤ 9223372036854775807) :
    Calls Tryz.prog 86 #[.slice q b.length c, .int .i64 most] w (GaveB w (gbL b most)) := by
  have h1 := get_any b q c w hs (by omega)
  obtain ⟨b1, b2, b3⟩ := getL_bd b
  have HG : Hid (gbL b most = gbL b most) := Lib.hid rfl
  obtain ⟨R, hR⟩ : ∃ R, R = gbL b most := ⟨_, rfl⟩
  rw [← hR]
  unfold gbL at hR
  have HS := Lib.hid hs
  have HQ := Lib.hid hq
  obtain ⟨v, hv⟩ : ∃ v, v = (getL b).1 := ⟨_, rfl⟩
  obtain ⟨n, hn⟩ : ∃ n, n = (getL b).2.1 := ⟨_, rfl⟩
  obtain ⟨er, he⟩ : ∃ er, er = (getL b).2.2 := ⟨_, rfl⟩
  unfold tri at h1
  rw [← hv, ← hn, ← he] at h1 hR
  rw [← hv] at b1
  rw [← hn] at b2
  rw [← he] at b3
  have H1 := Lib.hid h1
  clear hs hq h1 hv hn he
  rcases b3 with rfl | h3
  · simp only [ne_eq, not_true_eq_false, if_false] at hR
    by_cases hneg : most < 0
    · rw [if_pos (.inl hneg)] at hR
      have HR := Lib.hid hR
      clear hR
      go_enter Tryz.func86, Tryz.ntmps86
      go_wp2_with ((with_reducible refine H1.out.mono ?_); rintro e w1 ⟨rfl, rfl⟩)
      go_ret3
      exact ⟨.slice none 0 0, by rw [HR.out]; rfl, by rw [HR.out]; exact Bs.nil _, Below.refl _ _⟩
    · have k1 : IntKind.u64.wrap most = most := wraps_u64 _ (by omega) (by omega)
      by_cases hbig : most < (v : Int)
      · rw [if_pos (.inr hbig)] at hR
        have HR := Lib.hid hR
        clear hR
        go_enter Tryz.func86, Tryz.ntmps86
        go_wp2_with ((with_reducible refine H1.out.mono ?_); rintro e w1 ⟨rfl, rfl⟩)
        go_ret3
        exact ⟨.slice none 0 0, by rw [HR.out]; rfl, by rw [HR.out]; exact Bs.nil _, Below.refl _ _⟩
      · rw [if_neg (by omega)] at hR
        have k2 : IntKind.u64.wrap ((b.length : Int) - (n : Int)) = (b.length : Int) - (n : Int) := wraps_u64 _ (by omega) (by omega)
        by_cases hmore : b.length - n < v
        · rw [if_pos hmore] at hR
          have HR := Lib.hid hR
          have k3 : (b.length : Int) - (n : Int) < (v : Int) := by omega
          clear hR hmore
          go_enter Tryz.func86, Tryz.ntmps86
          go_wp2_with ((with_reducible refine H1.out.mono ?_); rintro e w1 ⟨rfl, rfl⟩)
          go_ret3
          exact ⟨.slice none 0 0, by rw [HR.out]; rfl, by rw [HR.out]; exact Bs.nil _, Below.refl _ _⟩
        · rw [if_neg hmore] at hR
          have HR := Lib.hid hR
          have k3 : ¬ (b.length : Int) - (n : Int) < (v : Int) := by omega
          have k4 : IntKind.i64.wrap (v : Int) = (v : Int) := wraps_i64 _ (by omega) (by omega)
          have hcut := cut_midG q b.length c n v (by omega)
          have hlen : ((b.drop n).take v).length = v := by rw [List.length_take, List.length_drop]; omega
          have hcl := clone_any ((b.drop n).take v) (cutQ q c n) (c - n) w (mid_sees HS.out hc n v) (cutQ_none q c n HQ.out) (by rw [hlen]; omega)
          rw [hlen] at hcl
          have HC := Lib.hid hcl
          clear hR hmore hcl hlen
          go_enter Tryz.func86, Tryz.ntmps86
          go_wp2_with fail
          refine H1.out.mono ?_
          rintro e w1 ⟨rfl, rfl⟩
          go_wp2_with fail
          refine HC.out.mono ?_
          rintro e w1 ⟨s, rfl, hs1, hb1⟩
          have HS1 := Lib.hid hs1
          have HB1 := Lib.hid hb1
          clear hs1 hb1
          go_wp2_with fail
          go_ret3
          exact ⟨s, by rw [HR.out]; rfl, by rw [HR.out]; exact HS1.out, HB1.out⟩
  · have hR' : R = ([], 0, er) := by rw [hR, if_pos (by omega)]
    have HR := Lib.hid hR'
    clear hR hR'
    rcases h3 with rfl | rfl
    all_goals
      go_enter Tryz.func86, Tryz.ntmps86
      go_wp2_with ((with_reducible refine H1.out.mono ?_); rintro e w1 ⟨rfl, rfl⟩)
      go_ret3
      exact ⟨.slice none 0 0, by rw [HR.out]; rfl, by rw [HR.out]; exact Bs.nil _, Below.refl _ _⟩
end Go.Proofs.YtmjonlffhhehjaaGreatDoor
/- Contract: recipe's getFile. Conditions: at most 10^12 bytes; a nil slice has no room. -/
namespace Go.Proofs.YtmjonlffhhehjaaGreatDoor
open Go.RowKit
def zL : Ln := (⟨#[]⟩, false, zSu, .slice none 0 0, [])
theorem built_zl : Tryz.prog.built 34 [] = some (encL zL).toArray := by kernel_rfl
theorem results_cell3 {fn : Func} {p u z : Tmp} {ty : TypeId} (h : fn.results = #[.cell p ty, .tmp u, .tmp z]) (tmps : Array Value) (w : World) (g : Nat) (t : TypeId) (cs : Array Value) (fr : Nat × Nat) {fs : Array Field}
    (hp : tmps.getD p undef = .pointer (some ⟨g, 0, none⟩)) (hg : w.heap[g]? = some (.cells cs t fr)) (x y : Value) (hx : tmps.getD u undef = x) (hy : tmps.getD z undef = y)
    (hu : Tryz.prog.underlying ty = some (.struct fs)) (hi : (Tryz.prog.info? ty).map (·.size) = some cs.size) :
    (results fn tmps).run Tryz.prog w = .ok (.tuple #[.agg cs, x, y]) w := by
  have hp' : tmps[p]?.getD undef = .pointer (some ⟨g, 0, none⟩) := by simpa using hp
  have hx' : tmps[u]?.getD undef = x := by simpa using hx
  have hy' : tmps[z]?.getD undef = y := by simpa using hy
  simp [results, h, hp', hx', hy', asAddr, run_loadVar_row w g t ty cs fr _ hg hu rfl hi]
theorem GaveS.off {u w w' : World} {b : List (BitVec 8)} {n : Nat} {e : Ending} (h : ¬ n * 32 ≤ b.length) (g : GaveS u w b n e w') : e = .returned (.tuple #[.slice none 0 0, .slice none 0 0, .int .i64 3]) ∧ w = w' := by unfold GaveS at g; rw [if_neg h] at g; exact g
theorem GaveS.on {u w w' : World} {b : List (BitVec 8)} {n : Nat} {e : Ending} (h : n * 32 ≤ b.length) (g : GaveS u w b n e w') : ∃ v r, e = .returned (.tuple #[v, r, .int .i64 0]) ∧ OwnU w' w.heap.size 31 v (cutS b n) ∧ Bs u r (b.drop (n * 32)) ∧ Below w.heap.size w w' := by unfold GaveS at g; rw [if_pos h] at g; exact g
theorem getSums_b {b : List (BitVec 8)} {v : Value} {n : Nat} {u w : World} (hu : Below u.heap.size u w) (h : Bs u v b) (hl : b.length ≤ 1000000000000) (hn : n ≤ 10000) : Calls Tryz.prog 123 #[v, .int .i64 (n : Int)] w (GaveS u w b n) := by
  obtain ⟨q, c, rfl, h2, h3, h4⟩ := h
  exact getSums_any b q c n u w hu h2 h3 hl hn h4
theorem numGet_b {b : List (BitVec 8)} {v : Value} {w : World} (h : Bs w v b) (hl : b.length ≤ 1000000000000) : Calls Tryz.prog 121 #[v] w fun e w' => e = .returned (tri (getL b)) ∧ w = w' := by
  obtain ⟨q, c, rfl, h2, h3, h4⟩ := h
  exact get_any b q c w h4 (by omega)
/-- What stands behind a file's byte: error, whole, names, rest. -/
def fileB (b : List (BitVec 8)) : Nat × Su × List Su × List (BitVec 8) :=
  if ¬ 1 * 32 ≤ b.length then (3, zSu, [], [])
  else if (getL (b.drop 32)).2.2 ≠ 0 then ((getL (b.drop 32)).2.2, zSu, [], [])
  else if 2048 < (getL (b.drop 32)).1 then (2, zSu, [], [])
  else if ¬ (getL (b.drop 32)).1 * 32 ≤ ((b.drop 32).drop (getL (b.drop 32)).2.1).length then (3, zSu, [], [])
  else (0, suAt b, cutS ((b.drop 32).drop (getL (b.drop 32)).2.1) (getL (b.drop 32)).1, ((b.drop 32).drop (getL (b.drop 32)).2.1).drop ((getL (b.drop 32)).1 * 32))
/-- What getFile answers: of r = (error, path, kind, whole, names, rest). -/
def GaveF (u w : World) (k : Nat) (x : ByteArray) (d : Bool) (s : Su) (N : List Su) (r : List (BitVec 8)) (e : Ending) (w' : World) : Prop :=
  if k = 0 then ∃ v rest, e = .returned (.tuple #[.agg (encL (x, d, s, v, N)).toArray, rest, .int .i64 0]) ∧ OwnU w' w.heap.size 31 v N ∧ Bs u rest r
  else e = .returned (.tuple #[.agg (encL zL).toArray, .slice none 0 0, .int .i64 (k : Int)])
theorem GaveF.no {u w : World} {k : Nat} {x : ByteArray} {d : Bool} {s : Su} {N : List Su} {r : List (BitVec 8)} {w' : World} (h : k ≠ 0) : GaveF u w k x d s N r (.returned (.tuple #[.agg (encL zL).toArray, .slice none 0 0, .int .i64 (k : Int)])) w' := by unfold GaveF; rw [if_neg h]
theorem GaveF.yes {u w : World} {x : ByteArray} {d : Bool} {s : Su} {N : List Su} {r : List (BitVec 8)} {w' : World} {v rest : Value} (ho : OwnU w' w.heap.size 31 v N) (hb : Bs u rest r) : GaveF u w 0 x d s N r (.returned (.tuple #[.agg (encL (x, d, s, v, N)).toArray, rest, .int .i64 0])) w' := by unfold GaveF; rw [if_pos rfl]; exact ⟨v, rest, rfl, ho, hb⟩
set_option maxHeartbeats 8000000 in
set_option maxRecDepth 100000 in
theorem getFile_any (x : ByteArray) (b : List (BitVec 8)) (v : Value) (u w : World) (hu : Below u.heap.size u w) (hl : b.length ≤ 1000000000000) (hb : Bs u v b) :
    Calls Tryz.prog 87 #[.string x, v] w fun e w' => GaveF u w (fileB b).1 x false (fileB b).2.1 (fileB b).2.2.1 (fileB b).2.2.2 e w' ∧ Below w.heap.size w w' := by
  have hzz : zLn.toList = zLv.toList := by rw [zLv_eq]
  have HZ := Lib.hid (made_zl w)
  have HB0 := Lib.hid ((Below.refl w.heap.size w).alloc (Nat.le_refl _) (.cells zLn 34))
  rw [hzz, zLv_eq] at HZ
  rw [zLv_eq] at HB0
  clear hzz
  have H1 : Hid (∀ w1, Below w.heap.size w w1 → Calls Tryz.prog 123 #[v, .int .i64 1] w1 (GaveS u w1 b 1)) := Lib.hid fun w1 h => getSums_b (n := 1) (hu.trans (h.mono hu.size)) hb hl (by decide)
  have HU := Lib.hid hu
  have HBS := Lib.hid hb
  have HL := Lib.hid hl
  obtain ⟨R, hR⟩ : ∃ R, R = fileB b := ⟨_, rfl⟩
  rw [← hR]
  unfold fileB at hR
  have HR := Lib.hid hR
  clear hR hb hl hu
  unfold zLv at HZ HB0
  go_enter Tryz.func87, Tryz.ntmps87
  go_upto_region 1 with fail
  generalize w.alloc (.cells #[.string ⟨#[]⟩, .bool false, .int .u8 0, .int .u8 0, .int .u8 0, .int .u8 0, .int .u8 0, .int .u8 0, .int .u8 0, .int .u8 0, .int .u8 0, .int .u8 0, .int .u8 0, .int .u8 0, .int .u8 0, .int .u8 0, .int .u8 0, .int .u8 0, .int .u8 0, .int .u8 0, .int .u8 0, .int .u8 0, .int .u8 0, .int .u8 0, .int .u8 0, .int .u8 0, .int .u8 0, .int .u8 0, .int .u8 0, .int .u8 0, .int .u8 0, .int .u8 0, .int .u8 0, .int .u8 0, .slice none 0 0] 34) = w0 at *
  obtain ⟨g, hg⟩ : ∃ g, g = w.heap.size := ⟨_, rfl⟩
  rw [← hg] at HZ ⊢
  have HGE := Lib.hid hg
  clear hg
  obtain ⟨Z, hz1, hz2⟩ : ∃ Z : List Value, Has w0 g 34 Z ∧ Z.length = 35 := ⟨_, HZ.out, by kernel_rfl⟩
  clear HZ
  have HZ := Lib.hid hz1
  have HZL := Lib.hid hz2
  clear hz1 hz2
  by_cases h1 : 1 * 32 ≤ b.length
  case neg =>
    have HE := Lib.hid h1
    go_upto_region 3 with ((with_reducible refine (H1.out _ HB0.out).mono ?_); intro e w1 hs; obtain ⟨rfl, rfl⟩ := GaveS.off h1 hs)
    skip
    refine wp_region_lit ?_
    try simp only [Act.put, List.setIfInBounds_toArray, List.set_cons_zero, List.set_cons_succ]
    refine lp_pure (by kernel_rfl) (build_val 34 #[] rfl (encL zL).toArray [] (by simp) built_zl) ?_
    try simp only [Act.put, List.setIfInBounds_toArray, List.set_cons_zero, List.set_cons_succ]
    refine lp_pure (v := ?_) (by kernel_rfl) ?_ ?_
    rotate_left
    · go_simp; try with_reducible rfl
    try simp only [Act.put, List.setIfInBounds_toArray, List.set_cons_zero, List.set_cons_succ]
    refine wpList_store_row rfl 34 (.tmp 4) (.tmp 19) rfl g (encL zL).toArray rfl rfl 34 Z.toArray HZ.out (by rw [szLn, List.size_toArray, encL_len]) (by rw [List.size_toArray, List.size_toArray, encL_len]; exact HZL.out) (encL_all rfl) ?_
    simp only [Act.put]
    refine lp_pure (v := ?_) (by kernel_rfl) ?_ ?_
    rotate_left
    · go_simp; try with_reducible rfl
    try simp only [Act.put, List.setIfInBounds_toArray, List.set_cons_zero, List.set_cons_succ]
    refine lp_pure (v := ?_) (by kernel_rfl) ?_ ?_
    rotate_left
    · go_simp; try with_reducible rfl
    try simp only [Act.put, List.setIfInBounds_toArray, List.set_cons_zero, List.set_cons_succ]
    refine wpList_nil ?_
    go_wp2_with fail
    (try simp only [Exit.inBlock, Exit.then])
    refine bodyPost_ret (v := .tuple #[.agg (encL zL).toArray, .slice none 0 0, .int .i64 3]) ?_ rfl ⟨?_, below_row HB0.out (by have := HGE.out; omega) _⟩
    · exact results_cell3 rfl _ _ g 34 _ (0, 0) rfl (HZ.out.rowl _) _ _ rfl rfl Tryz.underlying34 (by rw [List.size_toArray, encL_len]; exact szLn)
    · have hk : R = (3, zSu, [], []) := by have := HR.out; rw [if_pos HE.out] at this; exact this
      rw [hk]
      exact GaveF.no (by omega)
  have HE := Lib.hid h1
  have HR1 : Hid (R = if (getL (b.drop 32)).2.2 ≠ 0 then ((getL (b.drop 32)).2.2, zSu, [], []) else if 2048 < (getL (b.drop 32)).1 then (2, zSu, [], []) else if ¬ (getL (b.drop 32)).1 * 32 ≤ ((b.drop 32).drop (getL (b.drop 32)).2.1).length then (3, zSu, [], []) else (0, suAt b, cutS ((b.drop 32).drop (getL (b.drop 32)).2.1) (getL (b.drop 32)).1, ((b.drop 32).drop (getL (b.drop 32)).2.1).drop ((getL (b.drop 32)).1 * 32))) := Lib.hid (by have := HR.out; rw [if_neg (fun h => h h1)] at this; exact this)
  clear HR
  have HR := HR1
  clear HR1
  have HX : Hid (cutS b 1 = [suAt b]) := Lib.hid rfl
  have HXL : Hid ((b.drop 32).length ≤ 1000000000000) := Lib.hid (by have := HL.out; rw [List.length_drop]; omega)
  generalize suAt b = s0 at *
  obtain ⟨g1, g2, g3⟩ := getL_bd (b.drop 32)
  have HNG : Hid (∀ w1 v1, Bs w1 v1 (b.drop 32) → Calls Tryz.prog 121 #[v1] w1 fun e w' => e = .returned (.tuple #[.int .u64 ((getL (b.drop 32)).1 : Int), .int .i64 ((getL (b.drop 32)).2.1 : Int), .int .i64 ((getL (b.drop 32)).2.2 : Int)]) ∧ w1 = w') := Lib.hid fun w1 v1 h => numGet_b h HXL.out
  generalize (getL (b.drop 32)).1 = m at *
  generalize (getL (b.drop 32)).2.1 = n at *
  generalize (getL (b.drop 32)).2.2 = er at *
  go_upto_region 4 with ((with_reducible refine (H1.out _ HB0.out).mono ?_); intro e w1 hs; obtain ⟨v1, r1, rfl, ho, hr, hb1⟩ := GaveS.on h1 hs; have HB1 := Lib.hid (HB0.out.trans (hb1.mono HB0.out.size)); have HZ1 := Lib.hid (HZ.out.keepB hb1); have HV1 := Lib.hid ho; have HS1 : Hid (Bs u r1 (b.drop 32)) := Lib.hid hr; clear hs ho hr hb1)
  rw [HX.out] at HV1
  clear HZ HB0 H1 HX
  generalize b.drop 32 = x1 at *
  have HS2 := Lib.hid (HNG.out w1 r1 (HS1.out.keep (HU.out.trans (HB1.out.mono HU.out.size))))
  clear HNG
  cases er with
  | succ er =>
    have k1 : ((((er + 1 : Nat) : Int)) == 0) = false := beq_false_of_ne (by omega)
    have k2 : (((er : Int) + 1) == 0) = false := beq_false_of_ne (by omega)
    have k3 : ¬ ((er : Int) + 1 = 0) := by omega
    go_upto_region 6 with ((with_reducible refine HS2.out.mono ?_); rintro e w2 ⟨rfl, rfl⟩)
    skip
    refine wp_region_lit ?_
    try simp only [Act.put, List.setIfInBounds_toArray, List.set_cons_zero, List.set_cons_succ]
    refine lp_pure (by kernel_rfl) (build_val 34 #[] rfl (encL zL).toArray [] (by simp) built_zl) ?_
    try simp only [Act.put, List.setIfInBounds_toArray, List.set_cons_zero, List.set_cons_succ]
    refine lp_pure (v := ?_) (by kernel_rfl) ?_ ?_
    rotate_left
    · go_simp; try with_reducible rfl
    try simp only [Act.put, List.setIfInBounds_toArray, List.set_cons_zero, List.set_cons_succ]
    refine wpList_store_row rfl 34 (.tmp 4) (.tmp 29) rfl g (encL zL).toArray rfl rfl 34 Z.toArray HZ1.out (by rw [szLn, List.size_toArray, encL_len]) (by rw [List.size_toArray, List.size_toArray, encL_len]; exact HZL.out) (encL_all rfl) ?_
    simp only [Act.put]
    refine lp_pure (v := ?_) (by kernel_rfl) ?_ ?_
    rotate_left
    · go_simp; try with_reducible rfl
    try simp only [Act.put, List.setIfInBounds_toArray, List.set_cons_zero, List.set_cons_succ]
    refine lp_pure (v := ?_) (by kernel_rfl) ?_ ?_
    rotate_left
    · go_simp; try with_reducible rfl
    try simp only [Act.put, List.setIfInBounds_toArray, List.set_cons_zero, List.set_cons_succ]
    refine wpList_nil ?_
    go_wp2_with fail
    (try simp only [Exit.inBlock, Exit.then])
    refine bodyPost_ret (v := .tuple #[.agg (encL zL).toArray, .slice none 0 0, .int .i64 ((er + 1 : Nat) : Int)]) ?_ rfl ⟨?_, below_row HB1.out (by have := HGE.out; omega) _⟩
    · exact results_cell3 rfl _ _ g 34 _ (0, 0) rfl (HZ1.out.rowl _) _ _ rfl rfl Tryz.underlying34 (by rw [List.size_toArray, encL_len]; exact szLn)
    · have hk : R = (er + 1, zSu, [], []) := by have := HR.out; rw [if_pos (by omega)] at this; exact this
      rw [hk]
      exact GaveF.no (by omega)
  | zero =>
    have HR1 : Hid (R = if 2048 < m then (2, zSu, [], []) else if ¬ m * 32 ≤ (x1.drop n).length then (3, zSu, [], []) else (0, s0, cutS (x1.drop n) m, (x1.drop n).drop (m * 32))) := Lib.hid (by have := HR.out; rw [if_neg (fun h => h rfl)] at this; exact this)
    clear HR
    have HR := HR1
    clear HR1
    by_cases h2 : 2048 < m
    case pos =>
      have HE2 := Lib.hid h2
      have k1 : (2048 : Int) < (m : Int) := by omega
      go_upto_region 8 with ((with_reducible refine HS2.out.mono ?_); rintro e w2 ⟨rfl, rfl⟩)
      skip
      refine wp_region_lit ?_
      try simp only [Act.put, List.setIfInBounds_toArray, List.set_cons_zero, List.set_cons_succ]
      refine lp_pure (by kernel_rfl) (build_val 34 #[] rfl (encL zL).toArray [] (by simp) built_zl) ?_
      try simp only [Act.put, List.setIfInBounds_toArray, List.set_cons_zero, List.set_cons_succ]
      refine wpList_store_row rfl 34 (.tmp 4) (.tmp 33) rfl g (encL zL).toArray rfl rfl 34 Z.toArray HZ1.out (by rw [szLn, List.size_toArray, encL_len]) (by rw [List.size_toArray, List.size_toArray, encL_len]; exact HZL.out) (encL_all rfl) ?_
      simp only [Act.put]
      refine lp_pure (v := ?_) (by kernel_rfl) ?_ ?_
      rotate_left
      · go_simp; try with_reducible rfl
      try simp only [Act.put, List.setIfInBounds_toArray, List.set_cons_zero, List.set_cons_succ]
      refine lp_pure (v := ?_) (by kernel_rfl) ?_ ?_
      rotate_left
      · go_simp; try with_reducible rfl
      try simp only [Act.put, List.setIfInBounds_toArray, List.set_cons_zero, List.set_cons_succ]
      refine wpList_nil ?_
      go_wp2_with fail
      (try simp only [Exit.inBlock, Exit.then])
      refine bodyPost_ret (v := .tuple #[.agg (encL zL).toArray, .slice none 0 0, .int .i64 2]) ?_ rfl ⟨?_, below_row HB1.out (by have := HGE.out; omega) _⟩
      · exact results_cell3 rfl _ _ g 34 _ (0, 0) rfl (HZ1.out.rowl _) _ _ rfl rfl Tryz.underlying34 (by rw [List.size_toArray, encL_len]; exact szLn)
      · have hk : R = (2, zSu, [], []) := by have := HR.out; rw [if_pos HE2.out] at this; exact this
        rw [hk]
        exact GaveF.no (by omega)
    have HE2 := Lib.hid h2
    have k1 : ¬ (2048 : Int) < (m : Int) := by omega
    have kw : IntKind.i64.wrap (m : Int) = (m : Int) := wraps_i64 _ (by omega) (by omega)
    obtain ⟨q1, c1, rfl, e2, e3, e4⟩ := HS1.out
    have HC := Lib.hid (fun (wx : World) => cut_from q1 x1.length c1 n g2 wx)
    have HCB := Lib.hid (Bs.cut e2 e3 e4 n g2)
    have H3 : Hid (∀ w1, Below w.heap.size w w1 → Calls Tryz.prog 123 #[.slice (cutQ q1 c1 n) (x1.length - n) (c1 - n), .int .i64 (m : Int)] w1 (GaveS u w1 (x1.drop n) m)) := Lib.hid fun w1 h => getSums_b (HU.out.trans (h.mono HU.out.size)) HCB.out (by have := HXL.out; rw [List.length_drop]; omega) (by omega)
    clear e2 e3 e4 HCB HS1
    have c2 := HC.out w1
    generalize x1.drop n = x2 at *
    by_cases h3 : m * 32 ≤ x2.length
    case neg =>
      have HE3 := Lib.hid h3
      go_upto_region 11 with (first | ((with_reducible refine HS2.out.mono ?_); rintro e w2 ⟨rfl, rfl⟩) | ((with_reducible refine (H3.out _ HB1.out).mono ?_); intro e w2 hs; obtain ⟨rfl, rfl⟩ := GaveS.off h3 hs))
      skip
      refine wp_region_lit ?_
      try simp only [Act.put, List.setIfInBounds_toArray, List.set_cons_zero, List.set_cons_succ]
      refine lp_pure (by kernel_rfl) (build_val 34 #[] rfl (encL zL).toArray [] (by simp) built_zl) ?_
      try simp only [Act.put, List.setIfInBounds_toArray, List.set_cons_zero, List.set_cons_succ]
      refine lp_pure (v := ?_) (by kernel_rfl) ?_ ?_
      rotate_left
      · go_simp; try with_reducible rfl
      try simp only [Act.put, List.setIfInBounds_toArray, List.set_cons_zero, List.set_cons_succ]
      refine wpList_store_row rfl 34 (.tmp 4) (.tmp 46) rfl g (encL zL).toArray rfl rfl 34 Z.toArray HZ1.out (by rw [szLn, List.size_toArray, encL_len]) (by rw [List.size_toArray, List.size_toArray, encL_len]; exact HZL.out) (encL_all rfl) ?_
      simp only [Act.put]
      refine lp_pure (v := ?_) (by kernel_rfl) ?_ ?_
      rotate_left
      · go_simp; try with_reducible rfl
      try simp only [Act.put, List.setIfInBounds_toArray, List.set_cons_zero, List.set_cons_succ]
      refine lp_pure (v := ?_) (by kernel_rfl) ?_ ?_
      rotate_left
      · go_simp; try with_reducible rfl
      try simp only [Act.put, List.setIfInBounds_toArray, List.set_cons_zero, List.set_cons_succ]
      refine wpList_nil ?_
      go_wp2_with fail
      (try simp only [Exit.inBlock, Exit.then])
      refine bodyPost_ret (v := .tuple #[.agg (encL zL).toArray, .slice none 0 0, .int .i64 3]) ?_ rfl ⟨?_, below_row HB1.out (by have := HGE.out; omega) _⟩
      · exact results_cell3 rfl _ _ g 34 _ (0, 0) rfl (HZ1.out.rowl _) _ _ rfl rfl Tryz.underlying34 (by rw [List.size_toArray, encL_len]; exact szLn)
      · have hk : R = (3, zSu, [], []) := by have := HR.out; rw [if_neg HE2.out, if_pos HE3.out] at this; exact this
        rw [hk]
        exact GaveF.no (by omega)
    have HE3 := Lib.hid h3
    go_upto_region 12 with (first | ((with_reducible refine HS2.out.mono ?_); rintro e w2 ⟨rfl, rfl⟩) | ((with_reducible refine (H3.out _ HB1.out).mono ?_); intro e w2 hs; obtain ⟨v3, r3, rfl, ho, hr, hb1⟩ := GaveS.on h3 hs; have HB3 := Lib.hid (HB1.out.trans (hb1.mono HB1.out.size)); have HZ3 := Lib.hid (HZ1.out.keepB hb1); have HV2 := Lib.hid (HV1.out.keep hb1); have HV3 := Lib.hid ho; have HR3 := Lib.hid hr; clear hs ho hr hb1))
    have HU1 := Lib.hid HV2.out.us
    have HU3 := Lib.hid HV3.out.us
    obtain ⟨q7, c7, hv7, _, _, hs7⟩ := HU1.out
    obtain ⟨q3, c3, hv3, _, _, _⟩ := HU3.out
    rw [show [s0].length = 1 from rfl] at hv7
    rw [cutS_len] at hv3
    rw [rowU_one] at hs7
    subst hv7 hv3
    obtain ⟨a7, rfl, _, hcell⟩ := hs7.get (by rw [encU_len]; omega)
    have HC7 := Lib.hid hcell
    have HO3 := Lib.hid ((HV3.out.offRow (g := g) (by have h := HZ1.out; unfold Has at h; exact (Array.getElem?_eq_some_iff.1 h).1) (encL (x, false, s0, .slice q3 m c3, cutS x2 m)).toArray).less (b := w.heap.size) HB1.out.size)
    clear hcell hs7 HU1 HU3 HV2 HS2 HC H3 c2 kw k1 HXL
    refine wp_region_lit ?_
    try simp only [Act.put, List.setIfInBounds_toArray, List.set_cons_zero, List.set_cons_succ]
    refine lp_pure (v := ?_) (by kernel_rfl) ?_ ?_
    rotate_left
    · go_simp; try with_reducible rfl
    try simp only [Act.put, List.setIfInBounds_toArray, List.set_cons_zero, List.set_cons_succ]
    refine lp_pure (v := ?_) (by kernel_rfl) ?_ ?_
    rotate_left
    · go_simp; try with_reducible rfl
    try simp only [Act.put, List.setIfInBounds_toArray, List.set_cons_zero, List.set_cons_succ]
    refine lp_pure (v := ?_) (by kernel_rfl) ?_ ?_
    rotate_left
    · go_simp; try with_reducible rfl
    try simp only [Act.put, List.setIfInBounds_toArray, List.set_cons_zero, List.set_cons_succ]
    refine lp_pure (by kernel_rfl) (load_su 31 (.tmp 50) rfl a7 rfl elSum.2.1 szSum s0 HC7.out) ?_
    try simp only [Act.put, List.setIfInBounds_toArray, List.set_cons_zero, List.set_cons_succ]
    refine lp_pure (v := ?_) (by kernel_rfl) ?_ ?_
    rotate_left
    · go_simp; try with_reducible rfl
    try simp only [Act.put, List.setIfInBounds_toArray, List.set_cons_zero, List.set_cons_succ]
    refine lp_pure (by kernel_rfl) (build_val 34 _ rfl (encL (x, false, s0, .slice q3 m c3, cutS x2 m)).toArray [(0, .string x), (2, .agg (encU s0).toArray), (3, .slice q3 m c3)] (by kernel_rfl) (built_file x s0 q3 m c3 (cutS x2 m))) ?_
    try simp only [Act.put, List.setIfInBounds_toArray, List.set_cons_zero, List.set_cons_succ]
    refine lp_pure (v := ?_) (by kernel_rfl) ?_ ?_
    rotate_left
    · go_simp; try with_reducible rfl
    try simp only [Act.put, List.setIfInBounds_toArray, List.set_cons_zero, List.set_cons_succ]
    refine wpList_store_row rfl 34 (.tmp 4) (.tmp 53) rfl g (encL (x, false, s0, .slice q3 m c3, cutS x2 m)).toArray rfl rfl 34 Z.toArray HZ3.out (by rw [szLn, List.size_toArray, encL_len]) (by rw [List.size_toArray, List.size_toArray, encL_len]; exact HZL.out) (encL_all rfl) ?_
    simp only [Act.put]
    refine lp_pure (v := ?_) (by kernel_rfl) ?_ ?_
    rotate_left
    · go_simp; try with_reducible rfl
    try simp only [Act.put, List.setIfInBounds_toArray, List.set_cons_zero, List.set_cons_succ]
    refine lp_pure (v := ?_) (by kernel_rfl) ?_ ?_
    rotate_left
    · go_simp; try with_reducible rfl
    try simp only [Act.put, List.setIfInBounds_toArray, List.set_cons_zero, List.set_cons_succ]
    refine wpList_nil ?_
    go_wp2_with fail
    (try simp only [Exit.inBlock, Exit.then])
    refine bodyPost_ret (v := .tuple #[.agg (encL (x, false, s0, .slice q3 m c3, cutS x2 m)).toArray, r3, .int .i64 0]) ?_ rfl ⟨?_, below_row HB3.out (by have := HGE.out; omega) _⟩
    · exact results_cell3 rfl _ _ g 34 _ (0, 0) rfl (HZ3.out.rowl _) _ _ rfl rfl Tryz.underlying34 (by rw [List.size_toArray, encL_len]; exact szLn)
    · have hk : R = (0, s0, cutS x2 m, x2.drop (m * 32)) := by have := HR.out; rw [if_neg HE2.out, if_neg (fun h => h HE3.out)] at this; exact this
      rw [hk]
      exact GaveF.yes HO3.out HR3.out
end Go.Proofs.YtmjonlffhhehjaaGreatDoor
/- Contract: recipe's getLine. Conditions: at most 10^12 bytes; a nil slice has no room. -/
namespace Go.Proofs.YtmjonlffhhehjaaGreatDoor
open Go.RowKit
theorem gbL_le (b : List (BitVec 8)) (m : Int) : (gbL b m).2.1 ≤ b.length := by
  have h := getL_bd b
  unfold gbL
  split
  · exact Nat.zero_le _
  · split
    · exact Nat.zero_le _
    · split
      · exact Nat.zero_le _
      · show (getL b).2.1 + (getL b).1 ≤ b.length
        omega
theorem getBytes_b {b : List (BitVec 8)} {v : Value} {w : World} (h : Bs w v b) (hl : b.length ≤ 1000000000000) : Calls Tryz.prog 86 #[v, .int .i64 68] w (GaveB w (gbL b 68)) := by
  obtain ⟨q, c, rfl, h2, h3, h4⟩ := h
  exact getBytes_any b q c 68 w h4 h2 h3 (by omega) (by decide) (by decide)
/-- A line at the beginning: error, path, kind, whole, names, rest. -/
def lineB (b : List (BitVec 8)) : Nat × ByteArray × Bool × Su × List Su × List (BitVec 8) :=
  if (gbL b 68).2.2 ≠ 0 then ((gbL b 68).2.2, ⟨#[]⟩, false, zSu, [], [])
  else if (gbL b 68).2.1 = b.length then (3, ⟨#[]⟩, false, zSu, [], [])
  else if b.getD (gbL b 68).2.1 0 = 1#8 then (0, strB (gbL b 68).1, true, zSu, [], b.drop ((gbL b 68).2.1 + 1))
  else if b.getD (gbL b 68).2.1 0 = 0#8 then ((fileB (b.drop ((gbL b 68).2.1 + 1))).1, strB (gbL b 68).1, false, (fileB (b.drop ((gbL b 68).2.1 + 1))).2.1, (fileB (b.drop ((gbL b 68).2.1 + 1))).2.2.1, (fileB (b.drop ((gbL b 68).2.1 + 1))).2.2.2)
  else (2, ⟨#[]⟩, false, zSu, [], [])
theorem GaveF.row {u w w1 w' : World} {k : Nat} {x : ByteArray} {d : Bool} {s : Su} {N : List Su} {r : List (BitVec 8)} {e : Ending} {g : Nat} (h : GaveF u w1 k x d s N r e w') (hg : g < w1.heap.size) (hb : w.heap.size ≤ w1.heap.size) :
    ∃ l rest, e = .returned (.tuple #[.agg (encL l).toArray, rest, .int .i64 (k : Int)]) ∧ l.2.2.2.1.oneCell' = true ∧ GaveF u w k x d s N r (.returned (.tuple #[.agg (encL l).toArray, rest, .int .i64 (k : Int)])) (w'.setRow g (encL l).toArray) := by
  unfold GaveF at h
  by_cases hk : k = 0
  · rw [if_pos hk] at h
    obtain ⟨v, rest, rfl, ho, hr⟩ := h
    subst hk
    exact ⟨(x, d, s, v, N), rest, rfl, ho.us.one, GaveF.yes ((ho.offRow hg _).less hb) hr⟩
  · rw [if_neg hk] at h
    subst h
    exact ⟨zL, .slice none 0 0, rfl, rfl, GaveF.no hk⟩
set_option maxHeartbeats 8000000 in
set_option maxRecDepth 100000 in
theorem getLine_any (b : List (BitVec 8)) (v : Value) (u w : World) (hu : Below u.heap.size u w) (hl : b.length ≤ 1000000000000) (hb : Bs u v b) :
    Calls Tryz.prog 45 #[v] w fun e w' => GaveF u w (lineB b).1 (lineB b).2.1 (lineB b).2.2.1 (lineB b).2.2.2.1 (lineB b).2.2.2.2.1 (lineB b).2.2.2.2.2 e w' ∧ Below w.heap.size w w' := by
  have hzz : zLn.toList = zLv.toList := by rw [zLv_eq]
  have HZ := Lib.hid (made_zl w)
  have HB0 := Lib.hid ((Below.refl w.heap.size w).alloc (Nat.le_refl _) (.cells zLn 34))
  rw [hzz, zLv_eq] at HZ
  rw [zLv_eq] at HB0
  clear hzz
  have HL := Lib.hid hl
  have HU := Lib.hid hu
  have hn := gbL_le b 68
  have H1 := Lib.hid (fun w1 (h : Below w.heap.size w w1) => getBytes_b (hb.keep (hu.trans (h.mono hu.size))) hl)
  obtain ⟨q, c, rfl, h2, h3, h4⟩ := hb
  have HS : Hid (Bs u (.slice q b.length c) b) := Lib.hid ⟨q, c, rfl, h2, h3, h4⟩
  obtain ⟨R, hR⟩ : ∃ R, R = lineB b := ⟨_, rfl⟩
  rw [← hR]
  unfold lineB at hR
  have HC := Lib.hid h2
  have HQ := Lib.hid h3
  have HSS := Lib.hid h4
  clear h2 h3 h4 hl hu
  generalize hG : gbL b 68 = G at *
  obtain ⟨p, n, er⟩ := G
  simp only [] at hR hn H1
  have HR := Lib.hid hR
  clear hG hR
  unfold zLv at HZ HB0
  go_enter Tryz.func45, Tryz.ntmps45
  go_upto_region 1 with fail
  generalize w.alloc (.cells #[.string ⟨#[]⟩, .bool false, .int .u8 0, .int .u8 0, .int .u8 0, .int .u8 0, .int .u8 0, .int .u8 0, .int .u8 0, .int .u8 0, .int .u8 0, .int .u8 0, .int .u8 0, .int .u8 0, .int .u8 0, .int .u8 0, .int .u8 0, .int .u8 0, .int .u8 0, .int .u8 0, .int .u8 0, .int .u8 0, .int .u8 0, .int .u8 0, .int .u8 0, .int .u8 0, .int .u8 0, .int .u8 0, .int .u8 0, .int .u8 0, .int .u8 0, .int .u8 0, .int .u8 0, .int .u8 0, .slice none 0 0] 34) = w0 at *
  obtain ⟨g, hg⟩ : ∃ g, g = w.heap.size := ⟨_, rfl⟩
  rw [← hg] at HZ ⊢
  have HGE := Lib.hid hg
  clear hg
  obtain ⟨Z, hz1, hz2⟩ : ∃ Z : List Value, Has w0 g 34 Z ∧ Z.length = 35 := ⟨_, HZ.out, by kernel_rfl⟩
  clear HZ
  have HZ := Lib.hid hz1
  have HZL := Lib.hid hz2
  clear hz1 hz2
  cases er with
  | succ er =>
    have k1 : ((((er + 1 : Nat) : Int)) == 0) = false := beq_false_of_ne (by omega)
    have k2 : (((er : Int) + 1) == 0) = false := beq_false_of_ne (by omega)
    have k3 : ¬ ((er : Int) + 1 = 0) := by omega
    go_upto_region 3 with ((with_reducible refine (H1.out _ HB0.out).mono ?_); rintro e w1 ⟨vp, rfl, hp, hb1⟩; have HB1 := Lib.hid (HB0.out.trans (hb1.mono HB0.out.size)); have HZ1 := Lib.hid (HZ.out.keepB hb1); have HP1 := Lib.hid hp; clear hp hb1)
    skip
    refine wp_region_lit ?_
    try simp only [Act.put, List.setIfInBounds_toArray, List.set_cons_zero, List.set_cons_succ]
    refine lp_pure (by kernel_rfl) (build_val 34 #[] rfl (encL zL).toArray [] (by simp) built_zl) ?_
    try simp only [Act.put, List.setIfInBounds_toArray, List.set_cons_zero, List.set_cons_succ]
    refine lp_pure (v := ?_) (by kernel_rfl) ?_ ?_
    rotate_left
    · go_simp; try with_reducible rfl
    try simp only [Act.put, List.setIfInBounds_toArray, List.set_cons_zero, List.set_cons_succ]
    refine wpList_store_row rfl 34 (.tmp 2) (.tmp 16) rfl g (encL zL).toArray rfl rfl 34 Z.toArray HZ1.out (by rw [szLn, List.size_toArray, encL_len]) (by rw [List.size_toArray, List.size_toArray, encL_len]; exact HZL.out) (encL_all rfl) ?_
    simp only [Act.put]
    refine lp_pure (v := ?_) (by kernel_rfl) ?_ ?_
    rotate_left
    · go_simp; try with_reducible rfl
    try simp only [Act.put, List.setIfInBounds_toArray, List.set_cons_zero, List.set_cons_succ]
    refine lp_pure (v := ?_) (by kernel_rfl) ?_ ?_
    rotate_left
    · go_simp; try with_reducible rfl
    try simp only [Act.put, List.setIfInBounds_toArray, List.set_cons_zero, List.set_cons_succ]
    refine wpList_nil ?_
    go_wp2_with fail
    (try simp only [Exit.inBlock, Exit.then])
    refine bodyPost_ret (v := .tuple #[.agg (encL zL).toArray, .slice none 0 0, .int .i64 ((er + 1 : Nat) : Int)]) ?_ rfl ⟨?_, below_row HB1.out (by have := HGE.out; omega) _⟩
    · exact results_cell3 rfl _ _ g 34 _ (0, 0) rfl (HZ1.out.rowl _) _ _ rfl rfl Tryz.underlying34 (by rw [List.size_toArray, encL_len]; exact szLn)
    · have hk : R = (er + 1, ⟨#[]⟩, false, zSu, [], []) := by have := HR.out; rw [if_pos (by omega)] at this; exact this
      rw [hk]
      exact GaveF.no (by omega)
  | zero =>
    by_cases h2 : n = b.length
    case pos =>
      have HE := Lib.hid h2
      have k1 : (n : Int) = (b.length : Int) := by omega
      clear h2
      go_upto_region 5 with ((with_reducible refine (H1.out _ HB0.out).mono ?_); rintro e w1 ⟨vp, rfl, hp, hb1⟩; have HB1 := Lib.hid (HB0.out.trans (hb1.mono HB0.out.size)); have HZ1 := Lib.hid (HZ.out.keepB hb1); have HP1 := Lib.hid hp; clear hp hb1)
      skip
      refine wp_region_lit ?_
      try simp only [Act.put, List.setIfInBounds_toArray, List.set_cons_zero, List.set_cons_succ]
      refine lp_pure (by kernel_rfl) (build_val 34 #[] rfl (encL zL).toArray [] (by simp) built_zl) ?_
      try simp only [Act.put, List.setIfInBounds_toArray, List.set_cons_zero, List.set_cons_succ]
      refine wpList_store_row rfl 34 (.tmp 2) (.tmp 22) rfl g (encL zL).toArray rfl rfl 34 Z.toArray HZ1.out (by rw [szLn, List.size_toArray, encL_len]) (by rw [List.size_toArray, List.size_toArray, encL_len]; exact HZL.out) (encL_all rfl) ?_
      simp only [Act.put]
      refine lp_pure (v := ?_) (by kernel_rfl) ?_ ?_
      rotate_left
      · go_simp; try with_reducible rfl
      try simp only [Act.put, List.setIfInBounds_toArray, List.set_cons_zero, List.set_cons_succ]
      refine lp_pure (v := ?_) (by kernel_rfl) ?_ ?_
      rotate_left
      · go_simp; try with_reducible rfl
      try simp only [Act.put, List.setIfInBounds_toArray, List.set_cons_zero, List.set_cons_succ]
      refine wpList_nil ?_
      go_wp2_with fail
      (try simp only [Exit.inBlock, Exit.then])
      refine bodyPost_ret (v := .tuple #[.agg (encL zL).toArray, .slice none 0 0, .int .i64 3]) ?_ rfl ⟨?_, below_row HB1.out (by have := HGE.out; omega) _⟩
      · exact results_cell3 rfl _ _ g 34 _ (0, 0) rfl (HZ1.out.rowl _) _ _ rfl rfl Tryz.underlying34 (by rw [List.size_toArray, encL_len]; exact szLn)
      · have hk : R = (3, ⟨#[]⟩, false, zSu, [], []) := by have := HR.out; rw [if_neg (fun h => h rfl), if_pos HE.out] at this; exact this
        rw [hk]
        exact GaveF.no (by omega)
    have HE2 := Lib.hid h2
    have k1 : ¬ (n : Int) = (b.length : Int) := by omega
    have hn2 : n < b.length := by omega
    obtain ⟨a, rfl, _, hcell⟩ := HSS.out.get (by rw [List.length_map]; omega)
    obtain ⟨y, hy⟩ : ∃ y, y = b.getD n 0 := ⟨_, rfl⟩
    have HY : Hid ((b.map u8v)[n]? = some (u8v y)) := Lib.hid (by rw [List.getElem?_map, List.getElem?_eq_getElem hn2, hy, List.getD_eq_getElem?_getD, List.getElem?_eq_getElem hn2]; rfl)
    rw [← hy] at HR
    clear hy
    have HCE := Lib.hid hcell
    clear hcell
    go_upto_region 6 with ((with_reducible refine (H1.out _ HB0.out).mono ?_); rintro e w1 ⟨vp, rfl, hp, hb1⟩; have HB1 := Lib.hid (HB0.out.trans (hb1.mono HB0.out.size)); have HZ1 := Lib.hid (HZ.out.keepB hb1); have HP1 := Lib.hid hp; clear hp hb1)
    obtain ⟨qp, cp, rfl, _, _, hps⟩ := HP1.out
    have HRE : Hid (Bs u (.slice (cutQ (some a) c (n + 1)) (b.length - (n + 1)) (c - (n + 1))) (b.drop (n + 1))) := Lib.hid (Bs.cut HC.out HQ.out HSS.out (n + 1) (by omega))
    have HCC : Hid (∀ wx, (Instr.slice 40 (.slice (some a) b.length c) (some (.int .i64 ((n : Int) + 1))) none none).run Tryz.prog wx = .ok (.slice (cutQ (some a) c (n + 1)) (b.length - (n + 1)) (c - (n + 1))) wx) := Lib.hid fun wx => cut_from (some a) b.length c (n + 1) hn2 wx
    have kw : IntKind.i64.wrap ((n : Int) + 1) = (n : Int) + 1 := wraps_i64 _ (by have := HL.out; omega) (by have := HL.out; omega)
    have k2 : (n : Int) < (b.length : Int) := by omega
    refine wp_region_org [(0, true), (1, true), (2, true), (3, true), (4, true), (5, true), (6, true), (7, true), (8, true), (9, true)] (by kernel_rfl) (by kernel_rfl) (by kernel_rfl) ?_
    have HB2 := Lib.hid HB1.out.drew
    have HZ2 : Hid (Has w1.drew g 34 Z) := Lib.hid HZ1.out.drew
    have HPS : Hid (Sees w1.drew w1.drew.heap.size qp (p.map u8v)) := Lib.hid hps
    clear hps HB1 HZ1 HP1 H1 HB0 HZ
    generalize w1.drew = wd at *
    have HCU : Hid (∀ w', Ext wd w' → w'.cell? (a.add n) = some (u8v y)) := Lib.hid (fun w' hv => by
      obtain ⟨a', e, _, hc⟩ := (HSS.out.keep (HU.out.trans ((HB2.out.trans (hv.mono HB2.out.size)).mono HU.out.size))).get (by rw [List.length_map]; omega)
      injection e with e
      subst e
      exact hc n _ HY.out)
    simp only [pickOrs, List.getElem?_cons_zero, List.getElem?_cons_succ]
    refine org_pure (v := ?_) (by kernel_rfl) ?_ ?_
    rotate_left
    · intro w' hv; clear hv; go_simp; try with_reducible rfl
    try simp only [Act.put, List.setIfInBounds_toArray, List.set_cons_zero, List.set_cons_succ]
    refine org_pure (v := ?_) (by kernel_rfl) ?_ ?_
    rotate_left
    · intro w' hv; clear hv; go_simp; try with_reducible rfl
    try simp only [Act.put, List.setIfInBounds_toArray, List.set_cons_zero, List.set_cons_succ]
    refine org_pure (v := ?_) (by kernel_rfl) ?_ ?_
    rotate_left
    · intro w' hv; clear hv; go_simp; try with_reducible rfl
    try simp only [Act.put, List.setIfInBounds_toArray, List.set_cons_zero, List.set_cons_succ]
    refine org_pure (by kernel_rfl) (fun w' hv => run_load1 5 (.tmp 25) rfl (a.add n) rfl Tryz.underlying5 rfl (HCU.out w' hv)) ?_
    try simp only [Act.put, List.setIfInBounds_toArray, List.set_cons_zero, List.set_cons_succ]
    refine org_pure (v := ?_) (by kernel_rfl) ?_ ?_
    rotate_left
    · intro w' hv; clear hv; go_simp; try with_reducible rfl
    try simp only [Act.put, List.setIfInBounds_toArray, List.set_cons_zero, List.set_cons_succ]
    refine org_pure (v := ?_) (by kernel_rfl) ?_ ?_
    rotate_left
    · intro w' hv; clear hv; go_simp; try with_reducible rfl
    try simp only [Act.put, List.setIfInBounds_toArray, List.set_cons_zero, List.set_cons_succ]
    refine org_pure (v := ?_) (by kernel_rfl) ?_ ?_
    rotate_left
    · intro w' hv; clear hv; go_simp; try with_reducible rfl
    try simp only [Act.put, List.setIfInBounds_toArray, List.set_cons_zero, List.set_cons_succ]
    refine org_pure (v := ?_) (by kernel_rfl) ?_ ?_
    rotate_left
    · intro w' hv; have c2 := HCC.out w'; clear hv; go_simp; try with_reducible rfl
    try simp only [Act.put, List.setIfInBounds_toArray, List.set_cons_zero, List.set_cons_succ]
    refine org_pure (v := ?_) (by kernel_rfl) ?_ ?_
    rotate_left
    · intro w' hv; clear hv; go_simp; try with_reducible rfl
    try simp only [Act.put, List.setIfInBounds_toArray, List.set_cons_zero, List.set_cons_succ]
    refine org_pure (v := ?_) (by kernel_rfl) ?_ ?_
    rotate_left
    · intro w' hv; clear hv; go_simp; try with_reducible rfl
    try simp only [Act.put, List.setIfInBounds_toArray, List.set_cons_zero]
    refine org_nil ?_
    clear HSS HY HCE HCC kw HQ
    have hstr := str_run p qp cp wd.heap.size wd HPS.out
    rw [show u8v y = .int .u8 (y.toNat : Int) from rfl]
    by_cases hy1 : y = 1#8
    case pos =>
      subst hy1
      rw [show (((1#8 : BitVec 8).toNat : Nat) : Int) = 1 from rfl]
      go_upto_region 9 with fail
      refine wp_region_lit ?_
      try simp only [Act.put, List.setIfInBounds_toArray, List.set_cons_zero, List.set_cons_succ]
      refine lp_pure (v := ?_) (by kernel_rfl) ?_ ?_
      rotate_left
      · go_simp; try with_reducible rfl
      try simp only [Act.put, List.setIfInBounds_toArray, List.set_cons_zero, List.set_cons_succ]
      refine lp_pure (v := ?_) (by kernel_rfl) ?_ ?_
      rotate_left
      · go_simp; try with_reducible rfl
      try simp only [Act.put, List.setIfInBounds_toArray, List.set_cons_zero, List.set_cons_succ]
      refine lp_pure (by kernel_rfl) (build_val 34 _ rfl (encL (strB p, true, zSu, .slice none 0 0, [])).toArray [(0, .string (strB p)), (1, .bool true)] (by kernel_rfl) (built_dir (strB p))) ?_
      try simp only [Act.put, List.setIfInBounds_toArray, List.set_cons_zero, List.set_cons_succ]
      refine lp_pure (v := ?_) (by kernel_rfl) ?_ ?_
      rotate_left
      · go_simp; try with_reducible rfl
      try simp only [Act.put, List.setIfInBounds_toArray, List.set_cons_zero, List.set_cons_succ]
      refine wpList_store_row rfl 34 (.tmp 2) (.tmp 36) rfl g (encL (strB p, true, zSu, .slice none 0 0, [])).toArray rfl rfl 34 Z.toArray HZ2.out (by rw [szLn, List.size_toArray, encL_len]) (by rw [List.size_toArray, List.size_toArray, encL_len]; exact HZL.out) (encL_all rfl) ?_
      simp only [Act.put]
      refine lp_pure (v := ?_) (by kernel_rfl) ?_ ?_
      rotate_left
      · go_simp; try with_reducible rfl
      try simp only [Act.put, List.setIfInBounds_toArray, List.set_cons_zero, List.set_cons_succ]
      refine lp_pure (v := ?_) (by kernel_rfl) ?_ ?_
      rotate_left
      · go_simp; try with_reducible rfl
      try simp only [Act.put, List.setIfInBounds_toArray, List.set_cons_zero, List.set_cons_succ]
      refine wpList_nil ?_
      go_wp2_with fail
      (try simp only [Exit.inBlock, Exit.then])
      refine bodyPost_ret (v := .tuple #[.agg (encL (strB p, true, zSu, .slice none 0 0, [])).toArray, .slice (cutQ (some a) c (n + 1)) (b.length - (n + 1)) (c - (n + 1)), .int .i64 0]) ?_ rfl ⟨?_, below_row HB2.out (by have := HGE.out; omega) _⟩
      · exact results_cell3 rfl _ _ g 34 _ (0, 0) rfl (HZ2.out.rowl _) _ _ rfl rfl Tryz.underlying34 (by rw [List.size_toArray, encL_len]; exact szLn)
      · have hk : R = (0, strB p, true, zSu, [], b.drop (n + 1)) := by have := HR.out; rw [if_neg (fun h => h rfl), if_neg HE2.out, if_pos trivial] at this; exact this
        rw [hk]
        exact GaveF.yes (OwnU.nil _ _ _) HRE.out
    have HY1 := Lib.hid hy1
    by_cases hy0 : y = 0#8
    case pos =>
      subst hy0
      rw [show (((0#8 : BitVec 8).toNat : Nat) : Int) = 0 from rfl]
      have HGF := Lib.hid (getFile_any (strB p) (b.drop (n + 1)) _ u wd (HU.out.trans (HB2.out.mono HU.out.size)) (by have := HL.out; rw [List.length_drop]; omega) HRE.out)
      have hR2 : R = ((fileB (b.drop (n + 1))).1, strB p, false, (fileB (b.drop (n + 1))).2.1, (fileB (b.drop (n + 1))).2.2.1, (fileB (b.drop (n + 1))).2.2.2) := by have := HR.out; rw [if_neg (fun h => h rfl), if_neg HE2.out, if_neg HY1.out, if_pos rfl] at this; exact this
      have HR2 := Lib.hid hR2
      clear hR2 HR
      generalize fileB (b.drop (n + 1)) = F at *
      go_upto_region 11 with fail
      refine wp_region_lit ?_
      try simp only [Act.put, List.setIfInBounds_toArray, List.set_cons_zero, List.set_cons_succ]
      refine lp_pure (v := ?_) (by kernel_rfl) ?_ ?_
      rotate_left
      · go_simp; try with_reducible rfl
      try simp only [Act.put, List.setIfInBounds_toArray, List.set_cons_zero, List.set_cons_succ]
      refine lp_pure (v := ?_) (by kernel_rfl) ?_ ?_
      rotate_left
      · go_simp; try with_reducible rfl
      try simp only [Act.put, List.setIfInBounds_toArray, List.set_cons_zero, List.set_cons_succ]
      refine lp_pure (v := ?_) (by kernel_rfl) ?_ ?_
      rotate_left
      · go_simp; try with_reducible rfl
      try simp only [Act.put, List.setIfInBounds_toArray, List.set_cons_zero, List.set_cons_succ]
      refine lp_step (by kernel_rfl) (fun K hK => ?_)
      go_wp2_with fail
      refine Calls.mono HGF.out ?_
      rintro e w3 ⟨hgf, hb3⟩
      obtain ⟨l, rest, rfl, h1, hG3⟩ := GaveF.row (g := g) (w := w) hgf (by have h := HZ2.out; unfold Has at h; exact (Array.getElem?_eq_some_iff.1 h).1) HB2.out.size
      have HB3 := Lib.hid (HB2.out.trans (hb3.mono HB2.out.size))
      have HZ3 := Lib.hid (HZ2.out.keepB hb3)
      have HG3 := Lib.hid hG3
      have H1C := Lib.hid h1
      refine hK _ _ ?_
      clear hK hgf hb3 hG3 h1 HGF
      try simp only [Act.put, List.setIfInBounds_toArray, List.set_cons_zero, List.set_cons_succ]
      refine lp_pure (v := ?_) (by kernel_rfl) ?_ ?_
      rotate_left
      · go_simp; try with_reducible rfl
      try simp only [Act.put, List.setIfInBounds_toArray, List.set_cons_zero, List.set_cons_succ]
      refine lp_pure (v := ?_) (by kernel_rfl) ?_ ?_
      rotate_left
      · go_simp; try with_reducible rfl
      try simp only [Act.put, List.setIfInBounds_toArray, List.set_cons_zero, List.set_cons_succ]
      refine lp_pure (v := ?_) (by kernel_rfl) ?_ ?_
      rotate_left
      · go_simp; try with_reducible rfl
      try simp only [Act.put, List.setIfInBounds_toArray, List.set_cons_zero, List.set_cons_succ]
      refine wpList_store_row rfl 34 (.tmp 2) (.tmp 44) rfl g (encL l).toArray rfl rfl 34 Z.toArray HZ3.out (by rw [szLn, List.size_toArray, encL_len]) (by rw [List.size_toArray, List.size_toArray, encL_len]; exact HZL.out) (encL_all H1C.out) ?_
      simp only [Act.put]
      refine lp_pure (v := ?_) (by kernel_rfl) ?_ ?_
      rotate_left
      · go_simp; try with_reducible rfl
      try simp only [Act.put, List.setIfInBounds_toArray, List.set_cons_zero, List.set_cons_succ]
      refine lp_pure (v := ?_) (by kernel_rfl) ?_ ?_
      rotate_left
      · go_simp; try with_reducible rfl
      try simp only [Act.put, List.setIfInBounds_toArray, List.set_cons_zero, List.set_cons_succ]
      refine wpList_nil ?_
      go_wp2_with fail
      (try simp only [Exit.inBlock, Exit.then])
      refine bodyPost_ret (v := .tuple #[.agg (encL l).toArray, rest, .int .i64 (F.1 : Int)]) ?_ rfl ⟨by rw [HR2.out]; exact HG3.out, below_row HB3.out (by have := HGE.out; omega) _⟩
      exact results_cell3 rfl _ _ g 34 _ (0, 0) rfl (HZ3.out.rowl _) _ _ rfl rfl Tryz.underlying34 (by rw [List.size_toArray, encL_len]; exact szLn)
    have HY0 := Lib.hid hy0
    have m1 : ¬ y.toNat = 1 := fun h => hy1 (BitVec.eq_of_toNat_eq h)
    have m0 : ¬ y.toNat = 0 := fun h => hy0 (BitVec.eq_of_toNat_eq h)
    have k3 : ((y.toNat : Int) == 1) = false := beq_false_of_ne (by omega)
    have k4 : ((y.toNat : Int) == 0) = false := beq_false_of_ne (by omega)
    have k5 : ¬ (y.toNat : Int) = 1 := by omega
    have k6 : ¬ (y.toNat : Int) = 0 := by omega
    go_upto_region 12 with fail
    skip
    refine wp_region_lit ?_
    try simp only [Act.put, List.setIfInBounds_toArray, List.set_cons_zero, List.set_cons_succ]
    refine lp_pure (by kernel_rfl) (build_val 34 #[] rfl (encL zL).toArray [] (by simp) built_zl) ?_
    try simp only [Act.put, List.setIfInBounds_toArray, List.set_cons_zero, List.set_cons_succ]
    refine wpList_store_row rfl 34 (.tmp 2) (.tmp 47) rfl g (encL zL).toArray rfl rfl 34 Z.toArray HZ2.out (by rw [szLn, List.size_toArray, encL_len]) (by rw [List.size_toArray, List.size_toArray, encL_len]; exact HZL.out) (encL_all rfl) ?_
    simp only [Act.put]
    refine lp_pure (v := ?_) (by kernel_rfl) ?_ ?_
    rotate_left
    · go_simp; try with_reducible rfl
    try simp only [Act.put, List.setIfInBounds_toArray, List.set_cons_zero, List.set_cons_succ]
    refine lp_pure (v := ?_) (by kernel_rfl) ?_ ?_
    rotate_left
    · go_simp; try with_reducible rfl
    try simp only [Act.put, List.setIfInBounds_toArray, List.set_cons_zero, List.set_cons_succ]
    refine wpList_nil ?_
    go_wp2_with fail
    (try simp only [Exit.inBlock, Exit.then])
    refine bodyPost_ret (v := .tuple #[.agg (encL zL).toArray, .slice none 0 0, .int .i64 2]) ?_ rfl ⟨?_, below_row HB2.out (by have := HGE.out; omega) _⟩
    · exact results_cell3 rfl _ _ g 34 _ (0, 0) rfl (HZ2.out.rowl _) _ _ rfl rfl Tryz.underlying34 (by rw [List.size_toArray, encL_len]; exact szLn)
    · have hk : R = (2, ⟨#[]⟩, false, zSu, [], []) := by have := HR.out; rw [if_neg (fun h => h rfl), if_neg HE2.out, if_neg HY1.out, if_neg HY0.out] at this; exact this
      rw [hk]
      exact GaveF.no (by omega)
end Go.Proofs.YtmjonlffhhehjaaGreatDoor
/- Contract: recipe's Get. Conditions: at most 10^12 bytes; a nil slice has no room. -/
namespace Go.Proofs.YtmjonlffhhehjaaGreatDoor
open Go.RowKit
theorem fileB_rest (b : List (BitVec 8)) : (fileB b).2.2.2.length ≤ b.length ∧ (fileB b).2.2.1.length ≤ 2048 := by
  unfold fileB
  split
  · exact ⟨Nat.zero_le _, Nat.zero_le _⟩
  · split
    · exact ⟨Nat.zero_le _, Nat.zero_le _⟩
    · split
      · exact ⟨Nat.zero_le _, Nat.zero_le _⟩
      · split
        · exact ⟨Nat.zero_le _, Nat.zero_le _⟩
        · refine ⟨?_, ?_⟩
          · simp only [List.length_drop]; omega
          · simp only [cutS_len]; omega
theorem gbL_68 (b : List (BitVec 8)) : (gbL b 68).1.length ≤ 68 := by
  unfold gbL
  split
  · exact Nat.zero_le _
  · split
    · exact Nat.zero_le _
    · split
      · exact Nat.zero_le _
      · show ((b.drop (getL b).2.1).take (getL b).1).length ≤ 68
        rw [List.length_take]; omega
theorem lineB_small (b : List (BitVec 8)) : (lineB b).2.1.size ≤ 68 ∧ (lineB b).2.2.2.2.1.length ≤ 2048 ∧ ((lineB b).1 = 0 → (lineB b).2.2.2.2.2.length < b.length) := by
  have h1 := gbL_le b 68
  have h2 := gbL_68 b
  have hz : (⟨#[]⟩ : ByteArray).size ≤ 68 := by decide
  have h3 := fileB_rest (b.drop ((gbL b 68).2.1 + 1))
  unfold lineB
  split
  · rename_i h; exact ⟨hz, Nat.zero_le _, fun h' => absurd h' h⟩
  · split
    · exact ⟨hz, Nat.zero_le _, fun h' => by cases h'⟩
    · split
      · refine ⟨by show (strB _).size ≤ 68; rw [strB_size]; exact h2, Nat.zero_le _, fun _ => ?_⟩
        show (b.drop _).length < b.length
        rw [List.length_drop]; omega
      · split
        · refine ⟨by show (strB _).size ≤ 68; rw [strB_size]; exact h2, h3.2, fun _ => ?_⟩
          have h4 := h3.1
          rw [List.length_drop] at h4
          show (fileB _).2.2.2.length < b.length
          omega
        · exact ⟨hz, Nat.zero_le _, fun h' => by cases h'⟩
/-- A line that is read, by its key. -/
def lineK (b : List (BitVec 8)) : Lk := ((lineB b).2.1, (lineB b).2.2.1, (lineB b).2.2.2.1, (lineB b).2.2.2.2.1)
/-- What Get answers: error, lines. -/
def getG : Nat → List (BitVec 8) → List Lk → Nat × List Lk
  | 0, _, R => if goodK R = true then (0, R) else (2, [])
  | f + 1, b, R => if b = [] then (if goodK R = true then (0, R) else (2, [])) else if (lineB b).1 ≠ 0 then ((lineB b).1, []) else getG f (lineB b).2.2.2.2.2 (if R.length ≤ 40 then R ++ [lineK b] else R)
theorem getG_succ (f : Nat) (b : List (BitVec 8)) (R : List Lk) : getG (f + 1) b R = if b = [] then (if goodK R = true then (0, R) else (2, [])) else if (lineB b).1 ≠ 0 then ((lineB b).1, []) else getG f (lineB b).2.2.2.2.2 (if R.length ≤ 40 then R ++ [lineK b] else R) := rfl
theorem getG_fuel : ∀ (f : Nat) (b : List (BitVec 8)) (R : List Lk), b.length ≤ f → getG f b R = getG b.length b R
  | 0, b, R, h => by rw [show b = [] from List.eq_nil_of_length_eq_zero (by omega)]; rfl
  | f + 1, b, R, h => by
    by_cases hb : b = []
    · subst hb; unfold getG; rw [if_pos rfl]; rfl
    · obtain ⟨k, hk⟩ : ∃ k, b.length = k + 1 := ⟨b.length - 1, by have := List.length_pos_iff.2 hb; omega⟩
      rw [hk]
      unfold getG
      rw [if_neg hb, if_neg hb]
      by_cases he : (lineB b).1 ≠ 0
      · rw [if_pos he, if_pos he]
      · have hr := (lineB_small b).2.2 (by omega)
        rw [if_neg he, if_neg he]
        exact (getG_fuel f (lineB b).2.2.2.2.2 _ (by omega)).trans (getG_fuel k (lineB b).2.2.2.2.2 _ (by omega)).symm
  termination_by f => f
def getP (b : List (BitVec 8)) : Nat × List Lk := getG b.length b []
theorem getG_nil (R : List Lk) : getG 0 [] R = if goodK R = true then (0, R) else (2, []) := rfl
theorem getG_bad {b : List (BitVec 8)} {R : List Lk} (hb : b ≠ []) (he : (lineB b).1 ≠ 0) : getG b.length b R = ((lineB b).1, []) := by
  obtain ⟨k, hk⟩ : ∃ k, b.length = k + 1 := ⟨b.length - 1, by have := List.length_pos_iff.2 hb; omega⟩
  rw [hk, getG_succ, if_neg hb, if_pos he]
theorem getG_on {b : List (BitVec 8)} {R : List Lk} (hb : b ≠ []) (he : (lineB b).1 = 0) : getG b.length b R = getG (lineB b).2.2.2.2.2.length (lineB b).2.2.2.2.2 (if R.length ≤ 40 then R ++ [lineK b] else R) := by
  obtain ⟨k, hk⟩ : ∃ k, b.length = k + 1 := ⟨b.length - 1, by have := List.length_pos_iff.2 hb; omega⟩
  have hr := (lineB_small b).2.2 he
  rw [hk, getG_succ, if_neg hb, if_neg (fun h => h he)]
  exact getG_fuel k (lineB b).2.2.2.2.2 _ (by omega)
theorem GaveF.any {u w w' : World} {k : Nat} {x : ByteArray} {d : Bool} {s : Su} {N : List Su} {r : List (BitVec 8)} {e : Ending} (h : GaveF u w k x d s N r e w') :
    ∃ l rest, e = .returned (.tuple #[.agg (encL l).toArray, rest, .int .i64 (k : Int)]) ∧ l.2.2.2.1.oneCell' = true ∧ (k = 0 → keyL l = (x, d, s, N) ∧ OwnU w' w.heap.size 31 l.2.2.2.1 l.2.2.2.2 ∧ Bs u rest r) := by
  unfold GaveF at h
  by_cases hk : k = 0
  · rw [if_pos hk] at h
    obtain ⟨v, rest, rfl, ho, hr⟩ := h
    subst hk
    exact ⟨(x, d, s, v, N), rest, rfl, ho.us.one, fun _ => ⟨rfl, ho, hr⟩⟩
  · rw [if_neg hk] at h
    subst h
    exact ⟨zL, .slice none 0 0, rfl, rfl, fun h => absurd h hk⟩
/-- The call answers lines and a number. -/
def GaveR (w : World) (V : Nat × List Lk) (e : Ending) (w' : World) : Prop :=
  (∃ v R, e = .returned (.tuple #[v, .int .i64 (V.1 : Int)]) ∧ LnV w' v R ∧ LnO w' w.heap.size 31 R ∧ R.map keyL = V.2) ∧ Below w.heap.size w w'
def slLen : Value → Nat
  | .slice _ n _ => n
  | _ => 0
theorem results_tmp2 {fn : Func} {p u : Tmp} (h : fn.results = #[.tmp p, .tmp u]) (tmps : Array Value) (w : World) {x y : Value} (hx : tmps.getD p undef = x) (hy : tmps.getD u undef = y) :
    (results fn tmps).run Tryz.prog w = .ok (.tuple #[x, y]) w := by
  have hx' : tmps[p]?.getD undef = x := by simpa using hx
  have hy' : tmps[u]?.getD undef = y := by simpa using hy
  simp [results, h, hx', hy']
set_option maxHeartbeats 8000000 in
set_option maxRecDepth 100000 in
theorem get12_any (b : List (BitVec 8)) (v : Value) (w : World) (hl : b.length ≤ 1000000000000) (hb : Bs w v b) :
    Calls Tryz.prog 15 #[v] w (GaveR w (getP b)) := by
  have HB0 := Lib.hid hb
  have HL := Lib.hid hl
  obtain ⟨V, hV⟩ : ∃ V, V = getP b := ⟨_, rfl⟩
  rw [← hV]
  unfold getP at hV
  have HV := Lib.hid hV
  have HO0 := Lib.hid (OwnL.nil w w.heap.size 34)
  clear hb hl hV
  go_enter Tryz.func15, Tryz.ntmps15
  go_upto_region 2 with fail
  go_loopw [0, 4] (fun vb vr wr => ∃ (x : List (BitVec 8)) (R : List Ln), x.length ≤ 1000000000000 ∧ R.length ≤ 41 ∧ Bs w vb x ∧ OwnL wr w.heap.size 34 vr R ∧ LnO wr w.heap.size 31 R ∧ V = getG x.length x (R.map keyL) ∧ (∀ l ∈ R, l.1.size ≤ 68 ∧ l.2.2.2.2.length ≤ 2048) ∧ Below w.heap.size w wr) (fun vb _ _ => slLen vb)
  case atStart => exact ⟨b, [], HL.out, Nat.zero_le _, HB0.out, HO0.out, LnO.nil _ _ _, HV.out, fun l h => (by cases h), Below.refl _ _⟩
  case round =>
    clear HO0 HB0 HV HL
    rename_i wr
    obtain ⟨x, R, hxl, hrl, hbs, hrow, hln, hv, hsz, hB⟩ := hrel
    have HROW := Lib.hid hrow
    have HLN := Lib.hid hln
    have HBW := Lib.hid hB
    have HRL := Lib.hid hrl
    have HSZ := Lib.hid hsz
    have HXL := Lib.hid hxl
    have HV := Lib.hid hv
    obtain ⟨qr, cr, rfl, r1, r2, r3⟩ := hrow.ln
    obtain ⟨qb, cb, rfl, b1, b2, b3⟩ := hbs
    have HBS : Hid (Bs w (.slice qb x.length cb) x) := Lib.hid ⟨qb, cb, rfl, b1, b2, b3⟩
    have HRS := Lib.hid r3
    clear hrow hln hB hrl hsz hxl hv r1 r2 b1 b2 b3
    by_cases hx : x = []
    · subst hx
      have HGD := Lib.hid (goodK_any R qr cr wr (by have := HRL.out; omega) (fun l h => by have := HSZ.out l h; omega) HRS.out HLN.out.lnb)
      have HV2 : Hid (V = if goodK (R.map keyL) = true then (0, R.map keyL) else (2, [])) := Lib.hid HV.out
      clear HV
      generalize goodK (R.map keyL) = GK at *
      cases GK with
      | false =>
        go_wp2_with ((with_reducible refine HGD.out.mono ?_); rintro e w1 ⟨rfl, hb⟩; have HB1 := Lib.hid (HBW.out.trans (hb.mono HBW.out.size)); clear hb)
        refine bodyPost_ret (v := .tuple #[.slice none 0 0, .int .i64 2]) (results_tmp2 rfl _ _ rfl rfl) rfl ?_
        have hk : V = (2, []) := by have := HV2.out; simpa using this
        rw [hk]
        exact ⟨⟨_, [], rfl, LnV.nil _, LnO.nil _ _ _, rfl⟩, HB1.out⟩
      | true =>
        go_wp2_with ((with_reducible refine HGD.out.mono ?_); rintro e w1 ⟨rfl, hb⟩; have HB1 := Lib.hid (HBW.out.trans (hb.mono HBW.out.size)); have HR1 := Lib.hid (HROW.out.keep hb); have HLN1 := Lib.hid (HLN.out.keep hb); clear hb)
        refine bodyPost_ret (v := .tuple #[.slice qr R.length cr, .int .i64 0]) (results_tmp2 rfl _ _ rfl rfl) rfl ?_
        have hk : V = (0, R.map keyL) := by have := HV2.out; simpa using this
        rw [hk]
        exact ⟨⟨_, R, rfl, HR1.out.ln, HLN1.out, rfl⟩, HB1.out⟩
    · have hpos := List.length_pos_iff.2 hx
      have kpos : (0 : Int) < (x.length : Int) := by omega
      have HX := Lib.hid hx
      have HGL := Lib.hid (getLine_any x _ w wr HBW.out HXL.out HBS.out)
      obtain ⟨s1, s2, s3⟩ := lineB_small x
      have HBAD : Hid ((lineB x).1 ≠ 0 → V = ((lineB x).1, [])) := Lib.hid fun h => HV.out.trans (getG_bad hx h)
      have HON : Hid ((lineB x).1 = 0 → V = getG (lineB x).2.2.2.2.2.length (lineB x).2.2.2.2.2 (if (R.map keyL).length ≤ 40 then R.map keyL ++ [lineK x] else R.map keyL)) := Lib.hid fun h => HV.out.trans (getG_on hx h)
      unfold lineK at HON
      have HS1 := Lib.hid s1
      have HS2 := Lib.hid s2
      have HS3 := Lib.hid s3
      clear s1 s2 s3 HV hx
      generalize lineB x = F at *
      obtain ⟨k, px, d, s, N, r⟩ := F
      simp only [] at HGL HBAD HON HS1 HS2 HS3
      go_upto_region 3 with fail
      refine wp_region_lit ?_
      try simp only [Act.put, List.setIfInBounds_toArray, List.set_cons_zero, List.set_cons_succ]
      refine lp_pure (v := ?_) (by kernel_rfl) ?_ ?_
      rotate_left
      · go_simp; try with_reducible rfl
      try simp only [Act.put, List.setIfInBounds_toArray, List.set_cons_zero, List.set_cons_succ]
      refine lp_step (by kernel_rfl) (fun K hK => ?_)
      go_wp2_with fail
      refine Calls.mono HGL.out ?_
      rintro e w3 ⟨hgf, hb3⟩
      obtain ⟨l, rest, rfl, h1, hG3⟩ := hgf.any
      have HB3 := Lib.hid (HBW.out.trans (hb3.mono HBW.out.size))
      have HR3 := Lib.hid (HROW.out.keep hb3)
      have HLN3 := Lib.hid (HLN.out.keep hb3)
      have HG3 : Hid (k = 0 → keyL l = (px, d, s, N) ∧ OwnU w3 w.heap.size 31 l.2.2.2.1 l.2.2.2.2 ∧ Bs w rest r) := Lib.hid fun h => ⟨(hG3 h).1, (hG3 h).2.1.less HBW.out.size, (hG3 h).2.2⟩
      have H1C := Lib.hid h1
      refine hK _ _ ?_
      clear hK hgf hb3 hG3 h1 HGL HROW HLN HBW HRS
      try simp only [Act.put, List.setIfInBounds_toArray, List.set_cons_zero, List.set_cons_succ]
      refine lp_pure (v := ?_) (by kernel_rfl) ?_ ?_
      rotate_left
      · go_simp; try with_reducible rfl
      try simp only [Act.put, List.setIfInBounds_toArray, List.set_cons_zero, List.set_cons_succ]
      refine lp_pure (v := ?_) (by kernel_rfl) ?_ ?_
      rotate_left
      · go_simp; try with_reducible rfl
      try simp only [Act.put, List.setIfInBounds_toArray, List.set_cons_zero, List.set_cons_succ]
      refine lp_pure (v := ?_) (by kernel_rfl) ?_ ?_
      rotate_left
      · go_simp; try with_reducible rfl
      try simp only [Act.put, List.setIfInBounds_toArray, List.set_cons_zero, List.set_cons_succ]
      refine lp_pure (v := ?_) (by kernel_rfl) ?_ ?_
      rotate_left
      · go_simp; try with_reducible rfl
      try simp only [Act.put, List.setIfInBounds_toArray, List.set_cons_zero, List.set_cons_succ]
      refine wp_copy_ln rfl rfl rfl (.tmp 5) (.tmp 14) rfl l H1C.out rfl rfl ?_
      intro w5 hh hb5
      have HB5 := Lib.hid (HB3.out.trans (hb5.mono HB3.out.size))
      have HR5 := Lib.hid (HR3.out.keep hb5)
      have HLN5 := Lib.hid (HLN3.out.keep hb5)
      have HH5 := Lib.hid hh
      have HG5 : Hid (k = 0 → keyL l = (px, d, s, N) ∧ OwnU w5 w.heap.size 31 l.2.2.2.1 l.2.2.2.2 ∧ Bs w rest r) := Lib.hid fun h => ⟨(HG3.out h).1, (HG3.out h).2.1.keep hb5, (HG3.out h).2.2⟩
      clear hh hb5 HB3 HR3 HLN3 HG3
      generalize w3.heap.size = bx at *
      try simp only [Act.put, List.setIfInBounds_toArray, List.set_cons_zero, List.set_cons_succ]
      refine lp_pure (v := ?_) (by kernel_rfl) ?_ ?_
      rotate_left
      · go_simp; try with_reducible rfl
      try simp only [Act.put, List.setIfInBounds_toArray, List.set_cons_zero, List.set_cons_succ]
      refine lp_pure (v := ?_) (by kernel_rfl) ?_ ?_
      rotate_left
      · go_simp; try with_reducible rfl
      try simp only [Act.put, List.setIfInBounds_toArray, List.set_cons_zero, List.set_cons_succ]
      refine wpList_nil ?_
      cases k with
      | succ k =>
        have hk : V = (k + 1, []) := HBAD.out (by omega)
        have k1 : ((((k + 1 : Nat) : Int)) == 0) = false := beq_false_of_ne (by omega)
        have k2 : (((k : Int) + 1) == 0) = false := beq_false_of_ne (by omega)
        have k3 : ¬ ((k : Int) + 1 = 0) := by omega
        have HK := Lib.hid hk
        clear hk
        go_wp2_with fail
        refine bodyPost_ret (v := .tuple #[.slice none 0 0, .int .i64 ((k + 1 : Nat) : Int)]) (results_tmp2 rfl _ _ rfl rfl) rfl ?_
        rw [HK.out]
        exact ⟨⟨_, [], rfl, LnV.nil _, LnO.nil _ _ _, rfl⟩, HB5.out⟩
      | zero =>
        obtain ⟨hkey, hou, hbr⟩ := HG5.out rfl
        have hlt := HS3.out rfl
        have hon := HON.out rfl
        rw [List.length_map] at hon
        obtain ⟨qn, cn, rfl, n1, n2, n3⟩ := hbr
        have HBR : Hid (Bs w (.slice qn r.length cn) r) := Lib.hid ⟨qn, cn, rfl, n1, n2, n3⟩
        have HKEY := Lib.hid hkey
        have HOU5 := Lib.hid hou
        clear hkey hou n1 n2 n3 HG5 HON
        by_cases h40 : R.length ≤ 40
        · rw [if_pos h40] at hon
          have HV := Lib.hid hon
          have k40 : (R.length : Int) ≤ 40 := by omega
          clear hon
          go_upto_region 7 with fail
          refine wp_region_lit ?_
          try simp only [Act.put, List.setIfInBounds_toArray, List.set_cons_zero, List.set_cons_succ]
          refine lp_pure (v := ?_) (by kernel_rfl) ?_ ?_
          rotate_left
          · go_simp; try with_reducible rfl
          try simp only [Act.put, List.setIfInBounds_toArray, List.set_cons_zero, List.set_cons_succ]
          refine lp_pure (by kernel_rfl) (load_boxL (.tmp 5) rfl bx rfl l HH5.out) ?_
          try simp only [Act.put, List.setIfInBounds_toArray, List.set_cons_zero, List.set_cons_succ]
          refine wpList_one_ln rfl 24 34 elLn (.tmp 24) rfl l rfl ?_
          try simp only [Act.put, List.setIfInBounds_toArray, List.set_cons_zero, List.set_cons_succ]
          have HA1 : Hid (Below w5.heap.size w5 (w5.alloc (.cells (encL l).toArray 34))) := Lib.hid ((Below.refl _ _).alloc (Nat.le_refl _) _)
          have HH1 : Hid (Has (w5.alloc (.cells (encL l).toArray 34)) w5.heap.size 34 (encL l)) := Lib.hid (Has.made' _ _ _ _ rfl)
          generalize w5.alloc (.cells (encL l).toArray 34) = w8 at *
          have HRO8 := Lib.hid (HR5.out.keep HA1.out)
          have HLN8 := Lib.hid (HLN5.out.keep HA1.out)
          have HOU8 := Lib.hid (HOU5.out.keep HA1.out)
          have HB8 := Lib.hid (HB5.out.trans (HA1.out.mono HB5.out.size))
          clear HR5 HLN5 HOU5 HB5 HA1 HH5
          generalize w5.heap.size = b7 at *
          refine wpList_add_ln rfl 24 34 elLn (.tmp 23) (.tmp 25) rfl w.heap.size _ R rfl HRO8.out b7 l rfl HH1.out HOU8.out.us (by omega) HB8.out.size ?_
          intro v9 w9 h1 h2
          have HRO9 := Lib.hid h1
          have HLN9 := Lib.hid ((HLN8.out.snoc HOU8.out).grown HRO8.out (by decide) h2)
          have HB9 := Lib.hid (HB8.out.grown h2 HB8.out.size (fun k hk => HRO8.out.base k hk))
          clear h1 h2
          try simp only [Act.put, List.setIfInBounds_toArray, List.set_cons_zero, List.set_cons_succ]
          refine lp_pure (v := ?_) (by kernel_rfl) ?_ ?_
          rotate_left
          · go_simp; try with_reducible rfl
          try simp only [Act.put, List.setIfInBounds_toArray, List.set_cons_zero, List.set_cons_succ]
          refine wpList_nil ?_
          go_wp2_with fail
          go_roundw
          case rel =>
            refine ⟨r, R ++ [l], by have := HXL.out; omega, by rw [List.length_append]; show R.length + 1 ≤ 41; omega, HBR.out, HRO9.out, HLN9.out, by rw [HV.out, List.map_append]; show _ = getG _ _ (_ ++ [keyL l]); rw [HKEY.out], ?_, HB9.out⟩
            intro x0 hx0
            rcases List.mem_append.1 hx0 with h | h
            · exact HSZ.out x0 h
            · rw [List.mem_singleton.1 h]
              have e1 : l.1 = px := congrArg Prod.fst HKEY.out
              have e2 : l.2.2.2.2 = N := congrArg (fun k : Lk => k.2.2.2) HKEY.out
              rw [e1, e2]
              exact ⟨HS1.out, HS2.out⟩
          case measure => simp [slLen]; omega
        · rw [if_neg h40] at hon
          have HV := Lib.hid hon
          have k40 : ¬ (R.length : Int) ≤ 40 := by omega
          clear hon
          go_wp2_with fail
          go_roundw
          case rel => exact ⟨r, R, by have := HXL.out; omega, HRL.out, HBR.out, HR5.out, HLN5.out, HV.out, HSZ.out, HB5.out⟩
          case measure => simp [slLen]; omega
end Go.Proofs.YtmjonlffhhehjaaGreatDoor
/- Contract: slices.Compact over sums, in a row of the caller's own. Condition: at most 10^6 sums. -/
namespace Go.Proofs.YtmjonlffhhehjaaGreatDoor
open Go.RowKit
theorem gdSum : Tryz.prog.eqGuardType Tryz.prog.depth 31 = false := by kernel_rfl
theorem RowAt.keep {w w' : World} {g : Nat} {E : TypeId} {dk : Array Su} {rest : List Value} (h : RowAt w g E dk rest) (hb : Below w.heap.size w w') : RowAt w' g E dk rest := Has.keep h hb (Has.lt h)
theorem RowAt.drew {w : World} {g : Nat} {E : TypeId} {dk : Array Su} {rest : List Value} (h : RowAt w g E dk rest) : RowAt w.drew g E dk rest := h
theorem OwnU.row {w : World} {base g cap : Nat} {E : TypeId} {M : List Su} (h : OwnU w base E (.slice (some ⟨g, 0, none⟩) M.length cap) M) : ∃ rest, RowAt w g E M.toArray rest ∧ base ≤ g ∧ M.length ≤ cap ∧ cap ≤ maxLen ∧ rest.length = (cap - M.length) * 32 := by
  rcases h.2 with ⟨h0, _⟩ | ⟨g', cap', cur, e0, hb, hg, h1, h2, h3, h4⟩
  · cases h0
  · injection e0 with e1 _ e3
    injection e1 with e1
    injection e1 with e1
    subst e1
    subst e3
    refine ⟨cur.toList.drop (M.length * 32), ?_, hb, h1, h2, ?_⟩
    · unfold RowAt Has
      rw [hg]
      have e : rowU M ++ cur.toList.drop (M.length * 32) = cur.toList := by rw [← h4, List.take_append_drop]
      simp only [e]
    · rw [List.length_drop]
      have : cur.toList.length = cap * 32 := by simpa using h3
      rw [this, ← Nat.sub_mul]
theorem RowAt.own {w : World} {base g cap : Nat} {E : TypeId} {L : List Su} {back : List Value} (h : RowAt w g E L.toArray back) (hb : base ≤ g) (h1 : L.length ≤ cap) (h2 : cap ≤ maxLen) (h3 : back.length = (cap - L.length) * 32) : OwnU w base E (.slice (some ⟨g, 0, none⟩) L.length cap) L := by
  refine ⟨rowU_len L, .inr ⟨g, cap, (rowU L ++ back).toArray, rfl, hb, h, h1, h2, ?_, ?_⟩⟩
  · simp only [List.size_toArray, List.length_append, rowU_len, h3, ← Nat.add_mul]
    congr 1; omega
  · show (rowU L ++ back).take (L.length * 32) = rowU L
    rw [List.take_append_of_le_length (by rw [rowU_len]; exact Nat.le_refl _), List.take_of_length_le (by rw [rowU_len]; exact Nat.le_refl _)]
theorem cut_lit (T E : TypeId) (hT : ElT T E) (g n c k : Nat) (hk : k ≤ n) (hkc : k < c) (w : World) : (Instr.slice T (.slice (some ⟨g, 0, none⟩) n c) (some (.int .i64 (k : Int))) none none).run Tryz.prog w = .ok (.slice (some ⟨g, k * 32, none⟩) (n - k) (c - k)) w := by
  rw [cut_su T E hT (some ⟨g, 0, none⟩) n c k hk w, if_neg (by omega), Option.map_some, add_lit', Nat.zero_add]
theorem compact_short {M : List Su} (h : M.length < 2) : Lib.compact M = M := Lib.compact_all M fun j hj => Lib.keeps_lt_one _ j (by omega)
set_option maxHeartbeats 4000000 in
theorem compactS_short (M : List Su) (q : Option Addr) (cap : Nat) (h2 : M.length < 2) (w : World) : Calls Tryz.prog 93 #[.slice q M.length cap] w fun e w' => e = .returned (.slice q M.length cap) ∧ w' = w := by
  have kk : (M.length : Int) < 2 := by omega
  go_enter Tryz.func93, Tryz.ntmps93
  go_wp2_with fail
  go_ret
  exact ⟨rfl, rfl⟩
set_option maxHeartbeats 8000000 in
set_option maxRecDepth 100000 in
theorem compactS_any (M : List Su) (g cap base : Nat) (hm : M.length ≤ 1000000) (w : World) (hO : OwnU w base 31 (.slice (some ⟨g, 0, none⟩) M.length cap) M) :
    Calls Tryz.prog 93 #[.slice (some ⟨g, 0, none⟩) M.length cap] w fun e w' => e = .returned (.slice (some ⟨g, 0, none⟩) (Lib.compact M).length cap) ∧ OwnU w' base 31 (.slice (some ⟨g, 0, none⟩) (Lib.compact M).length cap) (Lib.compact M) ∧ Below base w w' := by
  by_cases h2 : M.length < 2
  · refine (compactS_short M (some ⟨g, 0, none⟩) cap h2 w).mono ?_
    rintro e w' ⟨rfl, rfl⟩
    rw [compact_short h2]
    exact ⟨rfl, hO, Below.refl _ _⟩
  obtain ⟨rest, hR, hbg, hcap, hmax, hrest⟩ := hO.row
  have HR := Lib.hid hR
  have HX := Lib.hid hrest
  have HMX := Lib.hid hmax
  obtain ⟨d, hd⟩ : ∃ d, d = M.toArray := ⟨_, rfl⟩
  have hds : d.size = M.length := by rw [hd]; simp
  have HDS := Lib.hid hds
  have HCM : Hid (Lib.compact M = Lib.compactUpTo d d.size) := Lib.hid (by subst hd; simp [Lib.compact])
  have HDL : Hid (d.toList = M) := Lib.hid (by subst hd; simp)
  rw [← hd] at HR
  clear hR hrest hO hd hmax
  generalize hn : M.length = n at *
  have HN := Lib.hid hn
  clear hn
  have k2n : ¬ (n : Int) < 2 := by omega
  have HCUT : Hid (∀ k, k < n → ∀ w, (Instr.slice 32 (.slice (some ⟨g, 0, none⟩) n cap) (some (.int .i64 (k : Int))) none none).run Tryz.prog w = .ok (.slice (some ⟨g, k * 32, none⟩) (n - k) (cap - k)) w) := Lib.hid (fun k hk w => cut_lit _ _ elSum g n cap k (by omega) (by omega) w)
  go_enter Tryz.func93, Tryz.ntmps93
  go_wp2_with fail
  go_loopw [3] (fun v wr => ∃ k : Nat, 1 ≤ k ∧ k ≤ n ∧ v = .int .i64 k ∧ RowAt wr g 31 d rest ∧ Below base w wr ∧ ∀ j, j < k → Lib.keeps d j = true) (fun v _ => n - (intOf v).toNat)
  case atStart => exact ⟨1, by omega, by omega, rfl, HR.out, Below.refl _ _, Lib.keeps_lt_one d⟩
  case round =>
    clear HR
    rename_i wr
    obtain ⟨k, hk1, hk, rfl, hR, hB, hall⟩ := hrel
    have HR := Lib.hid hR
    have HB := Lib.hid hB
    have HALL := Lib.hid hall
    clear hR hB hall
    by_cases hlt : k < n
    · have c1 := fun w' (hb : Below wr.heap.size wr w') => (HR.out.keep hb).el k (by have := HDS.out; omega) (k * 32) rfl
      have c2 := fun w' (hb : Below wr.heap.size wr w') => (HR.out.keep hb).el (k - 1) (by have := HDS.out; omega) ((k - 1) * 32) rfl
      have HKP : Hid (d[k]! ≠ d[k - 1]! → Lib.keeps d k = true) := Lib.hid (fun h => Lib.keeps_pos h)
      have HKN : Hid (d[k]! = d[k - 1]! → Lib.keeps d k = false) := Lib.hid (fun h => Lib.keeps_neg (by omega) h)
      generalize d[k]! = u at *
      generalize d[k - 1]! = v at *
      have C1 := Lib.hid c1
      have C2 := Lib.hid c2
      clear c1 c2
      obtain ⟨p, hp⟩ : ∃ p, k = p + 1 := ⟨k - 1, by omega⟩
      have hp1 : k - 1 = p := by omega
      rw [hp1] at C2
      have kp : (k : Int) - 1 = (p : Int) := by omega
      have kwr : IntKind.i64.wrap (p : Int) = (p : Int) := IntWalk.i64_in _ (by omega)
      have hpn : (p : Int) < (n : Int) := by omega
      have hkn : (k : Int) < (n : Int) := by omega
      have HP := Lib.hid hp
      clear hp hp1
      go_wp2_with fail
      refine wp_region_org [(0, true), (1, true), (2, true), (3, true), (4, true), (5, true), (6, true), (7, true), (8, true), (9, true)] (by kernel_rfl) (by kernel_rfl) (by kernel_rfl) ?_
      replace HB := Lib.hid HB.out.drew
      replace HR := Lib.hid HR.out.drew
      replace C1 := Lib.hid (fun w' (hv : Ext wr.drew w') => C1.out w' (Below.drew (Below.refl _ wr) |>.trans hv))
      replace C2 := Lib.hid (fun w' (hv : Ext wr.drew w') => C2.out w' (Below.drew (Below.refl _ wr) |>.trans hv))
      generalize wr.drew = wd at *
      simp only [pickOrs, List.getElem?_cons_zero, List.getElem?_cons_succ]
      refine org_pure (v := ?_) (by kernel_rfl) ?_ ?_
      rotate_left
      · intro w' hv; clear hv; go_simp; try with_reducible rfl
      try simp only [Act.put, List.setIfInBounds_toArray, List.set_cons_zero, List.set_cons_succ]
      refine org_pure (v := ?_) (by kernel_rfl) ?_ ?_
      rotate_left
      · intro w' hv; clear hv; go_simp; try with_reducible rfl
      try simp only [Act.put, List.setIfInBounds_toArray, List.set_cons_zero, List.set_cons_succ]
      refine org_pure (v := ?_) (by kernel_rfl) ?_ ?_
      rotate_left
      · intro w' hv; clear hv; go_simp; try with_reducible rfl
      try simp only [Act.put, List.setIfInBounds_toArray, List.set_cons_zero, List.set_cons_succ]
      refine org_pure (by kernel_rfl) (fun w' hv => load_su 31 (.tmp 18) rfl _ rfl elSum.2.1 szSum u ((fun w' hv => C1.out w' hv) w' hv)) ?_
      try simp only [Act.put, List.setIfInBounds_toArray, List.set_cons_zero, List.set_cons_succ]
      refine org_pure (v := ?_) (by kernel_rfl) ?_ ?_
      rotate_left
      · intro w' hv; clear hv; go_simp; try with_reducible rfl
      try simp only [Act.put, List.setIfInBounds_toArray, List.set_cons_zero, List.set_cons_succ]
      refine org_pure (v := ?_) (by kernel_rfl) ?_ ?_
      rotate_left
      · intro w' hv; clear hv; go_simp; try with_reducible rfl
      try simp only [Act.put, List.setIfInBounds_toArray, List.set_cons_zero, List.set_cons_succ]
      refine org_pure (v := ?_) (by kernel_rfl) ?_ ?_
      rotate_left
      · intro w' hv; clear hv; go_simp; try with_reducible rfl
      try simp only [Act.put, List.setIfInBounds_toArray, List.set_cons_zero, List.set_cons_succ]
      refine org_pure (v := ?_) (by kernel_rfl) ?_ ?_
      rotate_left
      · intro w' hv; clear hv; go_simp; try with_reducible rfl
      try simp only [Act.put, List.setIfInBounds_toArray, List.set_cons_zero, List.set_cons_succ]
      refine org_pure (by kernel_rfl) (fun w' hv => load_su 31 (.tmp 23) rfl _ rfl elSum.2.1 szSum v ((fun w' hv => C2.out w' hv) w' hv)) ?_
      try simp only [Act.put, List.setIfInBounds_toArray, List.set_cons_zero, List.set_cons_succ]
      refine org_pure (by kernel_rfl) (fun w' hv => eql_su 31 (.tmp 19) (.tmp 24) _ rfl u v rfl rfl elSum.2.1 gdSum) ?_
      try simp only [Act.put, List.setIfInBounds_toArray, List.set_cons_zero, List.set_cons_succ]
      refine org_nil ?_
      clear C1 C2
      by_cases huv : u = v
      · have HKEEP := Lib.hid (HKN.out huv)
        rw [decide_eq_true huv]
        have hcut := HCUT.out k hlt
        have HI0 : Hid (Lib.CompInv d (k + 1) k d) := Lib.hid (Lib.CompInv.start HALL.out HKEEP.out)
        clear HKP HKN HKEEP HALL huv
        go_wp2_with fail
        go_loopw [3, 5] (fun v v5 wr => ∃ (kk k2 : Nat) (dk : Array Su), 1 ≤ k2 ∧ k + k2 ≤ n ∧ v = .int .i64 kk ∧ v5 = .int .i64 k2 ∧ RowAt wr g 31 dk rest ∧ Below base w wr ∧ Lib.CompInv d (k + k2) kk dk) (fun _ v5 _ => n - (intOf v5).toNat)
        case atStart => exact ⟨k, 1, d, by omega, by omega, rfl, rfl, HR.out, HB.out, HI0.out⟩
        case round =>
          clear HR HB HI0 hcut
          obtain ⟨kk, k2, dk, hk21, hk2, rfl, rfl, hR, hB, hI⟩ := hrel
          have HR := Lib.hid hR
          have HB := Lib.hid hB
          have HI := Lib.hid hI
          have hkk : kk < k + k2 := hI.lt
          have hsz := hI.size
          have hsz2 := HDS.out
          clear hR hB hI
          by_cases hlt2 : k + k2 < n
          · have c1 := fun w' (hb : Below wr.heap.size wr w') => (HR.out.keep hb).el (k + k2) (by omega) (k * 32 + k2 * 32) (by omega)
            have c2 := fun w' (hb : Below wr.heap.size wr w') => (HR.out.keep hb).el (k + k2 - 1) (by omega) (k * 32 + (k2 - 1) * 32) (by omega)
            rw [HI.out.high (k + k2) (by omega)] at c1
            rw [HI.out.high (k + k2 - 1) (by omega)] at c2
            have HKP : Hid (d[k + k2]! ≠ d[k + k2 - 1]! → Lib.CompInv d (k + k2 + 1) (kk + 1) (dk.setIfInBounds kk d[k + k2]!)) := Lib.hid (fun h => HI.out.keep (by omega) (Lib.keeps_pos h))
            have HKN : Hid (d[k + k2]! = d[k + k2 - 1]! → Lib.CompInv d (k + k2 + 1) kk dk) := Lib.hid (fun h => HI.out.skip (Lib.keeps_neg (by omega) h))
            generalize d[k + k2]! = x at *
            generalize d[k + k2 - 1]! = y at *
            have C1 := Lib.hid c1
            have C2 := Lib.hid c2
            clear c1 c2
            obtain ⟨p2, hp2⟩ : ∃ p, k2 = p + 1 := ⟨k2 - 1, by omega⟩
            have hp1 : k2 - 1 = p2 := by omega
            rw [hp1] at C2
            have kp2 : (k2 : Int) - 1 = (p2 : Int) := by omega
            have kwq : IntKind.i64.wrap (p2 : Int) = (p2 : Int) := IntWalk.i64_in _ (by omega)
            have hm2 : ((n - k : Nat) : Int) = (n : Int) - (k : Int) := by omega
            have hpn2 : (p2 : Int) < ((n - k : Nat) : Int) := by omega
            have hkn2 : (k2 : Int) < ((n - k : Nat) : Int) := by omega
            have hkkn : (kk : Int) < (n : Int) := by omega
            have hk2b : k2 ≤ 1000000 := by omega
            have hkkb : kk ≤ 1000000 := by omega
            have HP2 := Lib.hid hp2
            generalize n - k = m at *
            clear hp2 hp1 HI hm2 kp hpn hkn kwr
            go_wp2_with fail
            refine wp_region_org [(0, true), (1, true), (2, true), (3, true), (4, true), (5, true), (6, true), (7, true), (8, true), (9, true)] (by kernel_rfl) (by kernel_rfl) (by kernel_rfl) ?_
            replace HB := Lib.hid HB.out.drew
            replace HR := Lib.hid HR.out.drew
            replace C1 := Lib.hid (fun w' (hv : Ext wr.drew w') => C1.out w' (Below.drew (Below.refl _ wr) |>.trans hv))
            replace C2 := Lib.hid (fun w' (hv : Ext wr.drew w') => C2.out w' (Below.drew (Below.refl _ wr) |>.trans hv))
            generalize wr.drew = wd2 at *
            simp only [pickOrs, List.getElem?_cons_zero, List.getElem?_cons_succ]
            refine org_pure (v := ?_) (by kernel_rfl) ?_ ?_
            rotate_left
            · intro w' hv; clear hv; go_simp; try with_reducible rfl
            try simp only [Act.put, List.setIfInBounds_toArray, List.set_cons_zero, List.set_cons_succ]
            refine org_pure (v := ?_) (by kernel_rfl) ?_ ?_
            rotate_left
            · intro w' hv; clear hv; go_simp; try with_reducible rfl
            try simp only [Act.put, List.setIfInBounds_toArray, List.set_cons_zero, List.set_cons_succ]
            refine org_pure (v := ?_) (by kernel_rfl) ?_ ?_
            rotate_left
            · intro w' hv; clear hv; go_simp; try with_reducible rfl
            try simp only [Act.put, List.setIfInBounds_toArray, List.set_cons_zero, List.set_cons_succ]
            refine org_pure (by kernel_rfl) (fun w' hv => load_su 31 (.tmp 37) rfl _ rfl elSum.2.1 szSum x ((fun w' hv => C1.out w' hv) w' hv)) ?_
            try simp only [Act.put, List.setIfInBounds_toArray, List.set_cons_zero, List.set_cons_succ]
            refine org_pure (v := ?_) (by kernel_rfl) ?_ ?_
            rotate_left
            · intro w' hv; clear hv; go_simp; try with_reducible rfl
            try simp only [Act.put, List.setIfInBounds_toArray, List.set_cons_zero, List.set_cons_succ]
            refine org_pure (v := ?_) (by kernel_rfl) ?_ ?_
            rotate_left
            · intro w' hv; clear hv; go_simp; try with_reducible rfl
            try simp only [Act.put, List.setIfInBounds_toArray, List.set_cons_zero, List.set_cons_succ]
            refine org_pure (v := ?_) (by kernel_rfl) ?_ ?_
            rotate_left
            · intro w' hv; clear hv; go_simp; try with_reducible rfl
            try simp only [Act.put, List.setIfInBounds_toArray, List.set_cons_zero, List.set_cons_succ]
            refine org_pure (v := ?_) (by kernel_rfl) ?_ ?_
            rotate_left
            · intro w' hv; clear hv; go_simp; try with_reducible rfl
            try simp only [Act.put, List.setIfInBounds_toArray, List.set_cons_zero, List.set_cons_succ]
            refine org_pure (by kernel_rfl) (fun w' hv => load_su 31 (.tmp 42) rfl _ rfl elSum.2.1 szSum y ((fun w' hv => C2.out w' hv) w' hv)) ?_
            try simp only [Act.put, List.setIfInBounds_toArray, List.set_cons_zero, List.set_cons_succ]
            refine org_pure (by kernel_rfl) (fun w' hv => neq_su 31 (.tmp 38) (.tmp 43) _ rfl x y rfl rfl elSum.2.1 gdSum) ?_
            try simp only [Act.put, List.setIfInBounds_toArray, List.set_cons_zero, List.set_cons_succ]
            refine org_nil ?_
            have C3 := Lib.hid (C1.out wd2 (Ext.refl _))
            clear C1 C2
            by_cases hxy : x = y
            · have HNEW := Lib.hid (HKN.out hxy)
              rw [decide_eq_true hxy]
              clear HKP HKN hxy C3
              go_wp2_with fail
              go_roundw
              case rel => exact ⟨kk, k2 + 1, dk, by omega, by omega, rfl, by go_num, HR.out, HB.out, HNEW.out⟩
              case measure => simp [intOf]; omega
            · have HNEW := Lib.hid (HKP.out hxy)
              rw [decide_eq_false hxy]
              clear HKP HKN hxy
              have HPUT := Lib.hid (HR.out.put kk (by omega) x)
              have HBP := Lib.hid (below_setCells hbg (encU x) (kk * 32) _ HB.out)
              go_wp2_with (first
                | (refine wpList_load_su rfl 31 (.tmp 49) rfl _ rfl elSum.2.1 szSum x C3.out ?_)
                | (refine wpList_store_su rfl 31 szSum (.tmp 51) (.tmp 50) rfl g kk _ (by omega) rfl x rfl HR.out (by omega) ?_))
              go_roundw
              case rel => exact ⟨kk + 1, k2 + 1, dk.setIfInBounds kk x, by omega, by omega, by go_num, by go_num, HPUT.out, HBP.out, HNEW.out⟩
              case measure => simp [intOf]; omega
          · have hend : k + k2 = n := by omega
            have hcut2 := HCUT.out kk (by omega)
            have hclr := fun ty => run_clear_su 32 31 elSum wr g kk (n - kk) (cap - kk) ty (by omega) HR.out (by omega) (kk * 32) rfl
            have hhd := fun w' => head_su 32 31 elSum (some ⟨g, 0, none⟩) n cap kk (by omega) w'
            obtain ⟨back, hrow, hbl⟩ := HR.out.cleared kk (n - kk) (by omega)
            have HROW := Lib.hid hrow
            have HBL := Lib.hid hbl
            have HBP := Lib.hid (below_setCells hbg (List.replicate ((n - kk) * 32) (Value.int .u8 0)) (kk * 32) _ HB.out)
            have hm2 : ((n - k : Nat) : Int) = (n : Int) - (k : Int) := by omega
            have hkn2 : ¬ (k2 : Int) < ((n - k : Nat) : Int) := by omega
            have HFIN : Hid (Lib.compact M = dk.toList.take kk) := Lib.hid (by
              rw [HCM.out]
              have hI := HI.out
              have hlow := hI.low
              have hlen := hI.len
              rw [hend] at hlow hlen
              rw [HDS.out]
              refine List.ext_getElem? fun j => ?_
              by_cases hj : j < kk
              · rw [hlow j hj, List.getElem?_take_of_lt hj, getElem!_pos dk j (by omega)]
                simp
              · rw [List.getElem?_eq_none (by omega), List.getElem?_eq_none (by rw [List.length_take]; omega)])
            have HLEN : Hid ((dk.toList.take kk).length = kk) := Lib.hid (by rw [List.length_take]; simp; omega)
            clear hrow hbl
            generalize hmm : n - k = m at *
            have hkk9 : kk ≤ n := by omega
            have hn9 := HDS.out
            go_wp2_with fail
            go_ret
            have hown := RowAt.own (base := base) HROW.out hbg (cap := cap) (by rw [HLEN.out]; omega) HMX.out (by rw [HLEN.out, HBL.out, HX.out, ← Nat.add_mul]; congr 1; omega)
            rw [HFIN.out]
            rw [HLEN.out] at hown ⊢
            exact ⟨rfl, hown, HBP.out⟩
      · have HKEEP := Lib.hid (HKP.out huv)
        rw [decide_eq_false huv]
        clear HKP HKN huv
        go_wp2_with fail
        go_roundw
        case rel => exact ⟨k + 1, by omega, by omega, by go_num, HR.out, HB.out, fun j hj => by
          by_cases e : j = k
          · subst e; exact HKEEP.out
          · exact HALL.out j (by omega)⟩
        case measure => simp [intOf]; omega
    · have hkn : k = n := by omega
      subst hkn
      have HFIN : Hid (Lib.compact M = M) := Lib.hid (Lib.compact_all M fun j hj => by
        have := HALL.out j (by have := HN.out; omega)
        rw [show M.toArray = d by rw [← HDL.out]]
        exact this)
      have kk : ¬ (k : Int) < (k : Int) := by omega
      go_wp2_with fail
      go_ret
      rw [HFIN.out]
      have hL : M.length = k := HN.out
      have hR2 : RowAt wr g 31 M.toArray rest := by rw [show M.toArray = d by rw [← HDL.out]]; exact HR.out
      rw [hL]
      have hown := RowAt.own (base := base) hR2 hbg (cap := cap) (by omega) HMX.out (by rw [hL]; exact HX.out)
      rw [hL] at hown
      exact ⟨rfl, hown, HB.out⟩
end Go.Proofs.YtmjonlffhhehjaaGreatDoor
/- slices.SortFunc, Clone, Equal over sums, by this dump’s numbers: applications of the library’s own contracts. Conditions: those of the library. -/
namespace Go.Proofs.YtmjonlffhhehjaaGreatDoor
open Go.Shelf Go.RowKit
def laysSortU_ren : Go.Shelf.Ren := ⟨fun | 6 => 91 | 15 => 127 | 14 => 126 | 28 => 154 | 29 => 140 | 20 => 146 | 21 => 147 | 22 => 148 | 23 => 149 | 24 => 150 | 25 => 151 | 26 => 152 | 27 => 153 | 46 => 166 | 47 => 167 | 48 => 168 | 49 => 169 | 50 => 170 | 57 => 177 | n => n, fun | 22 => 32 | 24 => 31 | 25 => 155 | 3 => 3 | 39 => 137 | 0 => 0 | 53 => 105 | 55 => 95 | 4 => 4 | 46 => 211 | 45 => 210 | 50 => 170 | 5 => 5 | 9 => 9 | 66 => 223 | 70 => 227 | 76 => 233 | 77 => 234 | n => n, fun | n => n⟩
theorem laysSortU : Go.Proofs.SlLaysF0.n6 Tryz.prog laysSortU_ren := {
  mixed := by kernel_rfl
  f6 := ⟨Tryz.f91.name, by decide, Tryz.func91.trans (congrArg some (by kernel_rfl))⟩
  f14 := ⟨Tryz.f126.name, by decide, Tryz.func126.trans (congrArg some (by kernel_rfl))⟩
  f15 := Tryz.func127.trans (congrArg some (by kernel_rfl))
  f20 := ⟨Tryz.f146.name, by decide, Tryz.func146.trans (congrArg some (by kernel_rfl))⟩
  f21 := ⟨Tryz.f147.name, by decide, Tryz.func147.trans (congrArg some (by kernel_rfl))⟩
  f22 := ⟨Tryz.f148.name, by decide, Tryz.func148.trans (congrArg some (by kernel_rfl))⟩
  f23 := ⟨Tryz.f149.name, by decide, Tryz.func149.trans (congrArg some (by kernel_rfl))⟩
  f24 := ⟨Tryz.f150.name, by decide, Tryz.func150.trans (congrArg some (by kernel_rfl))⟩
  f25 := ⟨Tryz.f151.name, by decide, Tryz.func151.trans (congrArg some (by kernel_rfl))⟩
  f26 := ⟨Tryz.f152.name, by decide, Tryz.func152.trans (congrArg some (by kernel_rfl))⟩
  f27 := ⟨Tryz.f153.name, by decide, Tryz.func153.trans (congrArg some (by kernel_rfl))⟩
  f28 := Tryz.func154.trans (congrArg some (by kernel_rfl))
  f29 := Tryz.func140.trans (congrArg some (by kernel_rfl))
  f46 := ⟨Tryz.f166.name, by decide, Tryz.func166.trans (congrArg some (by kernel_rfl))⟩
  f47 := Tryz.func167.trans (congrArg some (by kernel_rfl))
  f48 := Tryz.func168.trans (congrArg some (by kernel_rfl))
  f49 := ⟨Tryz.f169.name, by decide, Tryz.func169.trans (congrArg some (by kernel_rfl))⟩
  f50 := ⟨Tryz.f170.name, by decide, Tryz.func170.trans (congrArg some (by kernel_rfl))⟩
  f57 := ⟨Tryz.f177.name, by decide, Tryz.func177.trans (congrArg some (by kernel_rfl))⟩
  t0 := Tryz.underlying0
  a0 := Tryz.isAgg0
  z0 := Tryz.sizeOf0
  v0 := Tryz.zeroValue0
  t3 := Tryz.underlying3
  a3 := Tryz.isAgg3
  z3 := Tryz.sizeOf3
  v3 := Tryz.zeroValue3
  t4 := Tryz.underlying4
  a4 := Tryz.isAgg4
  z4 := Tryz.sizeOf4
  v4 := Tryz.zeroValue4
  t5 := Tryz.underlying5
  a5 := Tryz.isAgg5
  z5 := Tryz.sizeOf5
  v5 := Tryz.zeroValue5
  t9 := Tryz.underlying9
  a9 := Tryz.isAgg9
  z9 := Tryz.sizeOf9
  v9 := Tryz.zeroValue9
  t22 := Tryz.underlying32
  a22 := Tryz.isAgg32
  z22 := Tryz.sizeOf32
  v22 := Tryz.zeroValue32
  t25 := Tryz.underlying155
  a25 := Tryz.isAgg155
  z25 := Tryz.sizeOf155
  v25 := Tryz.zeroValue155
  t39 := Tryz.underlying137
  a39 := Tryz.isAgg137
  z39 := Tryz.sizeOf137
  v39 := Tryz.zeroValue137
  t45 := Tryz.underlying210
  a45 := Tryz.isAgg210
  z45 := Tryz.sizeOf210
  v45 := Tryz.zeroValue210
  t46 := Tryz.underlying211
  a46 := Tryz.isAgg211
  z46 := Tryz.sizeOf211
  v46 := Tryz.zeroValue211
  t50 := Tryz.underlying170
  a50 := Tryz.isAgg170
  z50 := Tryz.sizeOf170
  v50 := Tryz.zeroValue170
  t53 := Tryz.underlying105
  a53 := Tryz.isAgg105
  z53 := Tryz.sizeOf105
  v53 := Tryz.zeroValue105
  t55 := Tryz.underlying95
  a55 := Tryz.isAgg95
  z55 := Tryz.sizeOf95
  v55 := Tryz.zeroValue95
  t66 := Tryz.underlying223
  a66 := Tryz.isAgg223
  z66 := Tryz.sizeOf223
  v66 := Tryz.zeroValue223
  t70 := Tryz.underlying227
  a70 := Tryz.isAgg227
  z70 := Tryz.sizeOf227
  v70 := Tryz.zeroValue227
  t76 := Tryz.underlying233
  a76 := Tryz.isAgg233
  z76 := Tryz.sizeOf233
  v76 := Tryz.zeroValue233
  t77 := Tryz.underlying234
  a77 := Tryz.isAgg234
  z77 := Tryz.sizeOf234
  v77 := Tryz.zeroValue234 }
def laysCloneU_ren : Go.Shelf.Ren := ⟨fun | 41 => 90 | n => n, fun | 22 => 32 | 23 => 31 | 4 => 4 | n => n, fun | n => n⟩
theorem laysCloneU : Go.Proofs.SlLaysE0.n41 Tryz.prog laysCloneU_ren := {
  mixed := by kernel_rfl
  f41 := ⟨Tryz.f90.name, by decide, Tryz.func90.trans (congrArg some (by kernel_rfl))⟩
  t4 := Tryz.underlying4
  a4 := Tryz.isAgg4
  z4 := Tryz.sizeOf4
  v4 := Tryz.zeroValue4
  t22 := Tryz.underlying32
  a22 := Tryz.isAgg32
  z22 := Tryz.sizeOf32
  v22 := Tryz.zeroValue32 }
def laysEqualU_ren : Go.Shelf.Ren := ⟨fun | 8 => 78 | n => n, fun | 22 => 54 | 24 => 31 | 4 => 4 | 3 => 3 | 0 => 0 | n => n, fun | n => n⟩
theorem laysEqualU : Go.Proofs.SlLaysQ.n8 Tryz.prog laysEqualU_ren := {
  mixed := by kernel_rfl
  f8 := ⟨Tryz.f78.name, by decide, Tryz.func78.trans (congrArg some (by kernel_rfl))⟩
  t0 := Tryz.underlying0
  a0 := Tryz.isAgg0
  z0 := Tryz.sizeOf0
  v0 := Tryz.zeroValue0
  t3 := Tryz.underlying3
  a3 := Tryz.isAgg3
  z3 := Tryz.sizeOf3
  v3 := Tryz.zeroValue3
  t4 := Tryz.underlying4
  a4 := Tryz.isAgg4
  z4 := Tryz.sizeOf4
  v4 := Tryz.zeroValue4
  t22 := Tryz.underlying54
  a22 := Tryz.isAgg54
  z22 := Tryz.sizeOf54
  v22 := Tryz.zeroValue54 }
end Go.Proofs.YtmjonlffhhehjaaGreatDoor
/- Contracts: slices.SortFunc, slices.Clone over sums; package set's Of, inOrder. Condition: at most 10^6 sums. -/
namespace Go.Proofs.YtmjonlffhhehjaaGreatDoor
open Go.RowKit Go.Sort
theorem flatU (d : Array Su) : flatK encU 32 d = (rowU d.toList).toArray := by
  refine Array.ext (by simp [rowU_len]) fun t h1 h2 => ?_
  have ht : t < d.size * 32 := by simpa using h1
  have hi : t / 32 < d.toList.length := by simp; omega
  have h3 := get_flatK encU 32 d t ht
  rw [getElem!_pos (flatK encU 32 d) t h1] at h3
  rw [h3]
  have h4 := rowU_get d.toList (t / 32) hi (t % 32) (Nat.mod_lt _ (by decide))
  rw [show t / 32 * 32 + t % 32 = t by omega] at h4
  have h5 : t % 32 < (encU d.toList[t / 32]).length := by rw [encU_len]; exact Nat.mod_lt _ (by decide)
  rw [List.getElem?_eq_getElem h5, List.getElem?_eq_getElem (by simpa using h2)] at h4
  have h6 := Option.some.inj h4
  rw [getElem!_pos d (t / 32) (by simpa using hi), getElem!_pos (encU d[t / 32]) (t % 32) (by simpa using h5)]
  simpa using h6.symm
theorem RowAt.holds {w : World} {g : Nat} {E : TypeId} {dk : Array Su} {rest : List Value} (h : RowAt w g E dk rest) : HoldsK encU 32 w g 0 dk := fun j hj => by
  rw [flatU] at hj ⊢
  have hj' : j < (rowU dk.toList).length := by simpa using hj
  refine ⟨?_, Has.free h _⟩
  rw [Has.cell h, Nat.zero_add, List.getElem?_append_left hj', List.getElem?_eq_getElem hj', getElem!_pos (rowU dk.toList).toArray j hj]
  simp
theorem RowAt.sorted {w : World} {g : Nat} {E : TypeId} {dk d2 : Array Su} {rest : List Value} (h : RowAt w g E dk rest) (hs : d2.size = dk.size) (n : Nat) (os : Array Obj) : RowAt (sortWorldK encU 32 w g 0 n d2 os) g E d2 rest := by
  have hg : g < w.heap.size := Has.lt h
  unfold RowAt Has at h ⊢
  unfold sortWorldK putRowK
  rw [heap_grow_old _ _ (by simpa [putRow, mapBlock, Sort.ahead] using hg)]
  simp only [putRow, mapBlock, Sort.ahead, Array.getElem?_modify, h, onCells, if_true, Option.map_some]
  congr 2
  rw [flatU]
  unfold putCells
  have hl1 := rowU_len d2.toList
  have hl2 := rowU_len dk.toList
  have hz : d2.toList.length = dk.toList.length := by simpa using hs
  refine Array.ext (by simp [hl1, hl2, hz]) fun k h1 h2 => ?_
  simp only [Array.getElem_mapIdx, List.size_toArray, Nat.zero_add, Nat.zero_le, true_and, Nat.sub_zero, id]
  by_cases hk : k < (rowU d2.toList).length
  · rw [if_pos hk, getElem!_pos (rowU d2.toList).toArray k (by simpa using hk)]
    simp [List.getElem_append_left hk]
  · rw [if_neg hk]
    simp only [List.getElem_toArray]
    rw [List.getElem_append_right (by rw [hl2, ← hz, ← hl1]; omega), List.getElem_append_right (by omega)]
    congr 1
    rw [hl1, hl2, hz]
theorem below_sorted {w : World} {base g n : Nat} (hb : base ≤ g) (hs : base ≤ w.heap.size) (d : Array Su) (os : Array Obj) : Below base w (sortWorldK encU 32 w g 0 n d os) := by
  refine ⟨rfl, rfl, rfl, ?_, fun k hk => ?_⟩
  · unfold sortWorldK putRowK; show w.heap.size ≤ _; simp [grow, putRow, mapBlock, Sort.ahead]
  · unfold sortWorldK putRowK
    rw [heap_grow_old _ _ (by simp [putRow, mapBlock, Sort.ahead]; omega)]
    have : g ≠ k := by omega
    simp [putRow, mapBlock, Sort.ahead, Array.getElem?_modify, this]
theorem sortS_any (M : List Su) (g cap base : Nat) (hm : M.length ≤ 1000000) (w : World) (hO : OwnU w base 31 (.slice (some ⟨g, 0, none⟩) M.length cap) M) (hb : base ≤ w.heap.size) :
    Calls Tryz.prog 91 #[.slice (some ⟨g, 0, none⟩) M.length cap, .func (.func 92) #[] #[]] w fun e w' => e = .returned (.tuple #[]) ∧ OwnU w' base 31 (.slice (some ⟨g, 0, none⟩) M.length cap) (M.mergeSort fun x y => !(ltOf cmpU) y x) ∧ Below base w w' := by
  obtain ⟨rest, hR, hbg, hcap, hmax, hrest⟩ := hO.row
  have eg : ∀ args w, (callFunc 92 args).run Tryz.prog w = .ok (.enter 92 args) w := enters_of Tryz.func92 (by kernel_rfl) rfl
  have hcmp : CmpLays Tryz.prog 92 #[] encU 32 cmpU g 0 M.toArray.size w := fun m os dk _ x y => cmpg_any x.1 y.1 x.2 y.2 _
  have h := AnyQ.slices_SortFunc_total laysSortU 32 Tryz.isAgg31 Tryz.sizeOf31 encU encU_len encU_one cmpU swoU 92 #[] g 0 cap M.toArray w eg hcmp hR.holds (Has.lt hR) (by simp; omega) partedU
  have hz : M.toArray.size = M.length := by simp
  rw [hz] at h
  refine Calls.mono h fun e w' ⟨he, n, os, hw⟩ => ⟨he, ?_, ?_⟩
  · have hp := (sortU_facts M).1.length_eq
    have h2 := RowAt.sorted hR (d2 := (M.mergeSort fun x y => !(ltOf cmpU) y x).toArray) (by simp [hp]) n os
    rw [show M.toArray.toList = M from rfl] at hw
    rw [← hw] at h2
    have h3 := RowAt.own (base := base) h2 hbg (cap := cap) (by omega) hmax (by rw [hp]; exact hrest)
    rw [hp] at h3
    exact h3
  · rw [hw]; exact below_sorted hbg hb _ _
theorem sortNoneS (q : Option Addr) (c : Nat) (fv : Value) (w : World) : Calls Tryz.prog 91 #[.slice q 0 c, fv] w fun e w' => e = .returned (.tuple #[]) ∧ w' = w := AnyF.slices_SortFunc_none { laysSortU with } q c fv w
set_option maxHeartbeats 4000000 in
set_option maxRecDepth 100000 in
theorem cloneS_any (L : List Su) (q : Option Addr) (c : Nat) (hm : L.length ≤ 1000000) (w : World) (hs : Sees w w.heap.size q (rowU L)) :
    Calls Tryz.prog 90 #[.slice q L.length c] w fun e w' => (∃ v, e = .returned v ∧ OwnU w' w.heap.size 31 v L) ∧ Below w.heap.size w w' := by
  have HS := Lib.hid hs
  clear hs
  have hq := fun w a n c n' c' => Lib.run_eql_slice_nil (P := Tryz.prog) w 32 31 a n c n' c' Tryz.underlying32
  rcases q with _ | a
  · have h0 : L = [] := by
      rcases L with _ | ⟨y, L⟩
      · rfl
      · obtain ⟨a, h1, _⟩ := HS.out.get (by rw [rowU_len, List.length_cons]; omega)
        cases h1
    subst h0
    go_enter Tryz.func90, Tryz.ntmps90
    go_wp2_with fail
    go_ret
    exact ⟨⟨_, rfl, OwnU.nil _ _ _⟩, Below.refl _ _⟩
  · have HN := Lib.hid (run_none_su 32 31 elSum w)
    have HO := Lib.hid (OwnU.empty w w.heap.size 31 (Nat.le_refl _))
    have HB := Lib.hid ((Below.refl w.heap.size w).alloc (Nat.le_refl _) (.cells #[] 31))
    have HL : Hid (0 + L.length ≤ 4000000) := Lib.hid (by omega)
    have hrn := HN.out
    go_enter Tryz.func90, Tryz.ntmps90
    go_wp2_with (refine wpList_append_su rfl 32 31 elSum (.tmp 5) (.tmp 6) rfl w.heap.size _ [] rfl HO.out (some a) L L.length c w.heap.size rfl rfl (fun h => by cases h) (HS.out.keep HB.out) HL.out (by simp) ?_; intro v3 w3 h1 h2; have HO3 := Lib.hid h1; have HB3 := Lib.hid (HB.out.trans h2); clear h1 h2)
    go_ret
    exact ⟨⟨_, rfl, HO3.out⟩, HB3.out⟩
set_option maxHeartbeats 4000000 in
theorem setOf_any (L : List Su) (q : Option Addr) (c : Nat) (hm : L.length ≤ 1000000) (w : World) (hs : Sees w w.heap.size q (rowU L)) :
    Calls Tryz.prog 51 #[.slice q L.length c] w fun e w' => (∃ v, e = .returned v ∧ OwnU w' w.heap.size 31 v (srt L)) ∧ Below w.heap.size w w' := by
  have HC := Lib.hid (cloneS_any L q c hm w hs)
  clear hs
  go_enter Tryz.func51, Tryz.ntmps51
  go_upto_region 2 with ((with_reducible refine HC.out.mono ?_); rintro e w1 ⟨⟨v1, rfl, h1⟩, h2⟩; have HO1 := Lib.hid h1; have HB1 := Lib.hid h2; clear h1 h2)
  rcases HO1.out.2 with ⟨rfl, h0⟩ | ⟨g, cap, cur, rfl, hg⟩
  · have hL : L = [] := List.eq_nil_of_length_eq_zero h0
    subst hL
    clear HO1 HC
    have HCS : Hid (∀ w1, Calls Tryz.prog 93 #[.slice none 0 0] w1 fun e w' => e = .returned (.slice none 0 0) ∧ w' = w1) := Lib.hid (fun w1 => compactS_short [] none 0 (by decide) w1)
    go_wp2_with (first | ((with_reducible refine (sortNoneS _ _ _ _).mono ?_); rintro e w2 ⟨rfl, rfl⟩) | ((with_reducible refine (HCS.out _).mono ?_); rintro e w2 ⟨rfl, rfl⟩))
    go_ret
    exact ⟨⟨_, rfl, OwnU.nil _ _ _⟩, HB1.out⟩
  · have HS := Lib.hid (sortS_any L g cap w.heap.size hm w1 HO1.out HB1.out.size)
    have HLM : Hid ((L.mergeSort fun x y => !(ltOf cmpU) y x).length = L.length) := Lib.hid (sortU_facts L).1.length_eq
    have HFIN : Hid (Lib.compact (L.mergeSort fun x y => !(ltOf cmpU) y x) = srt L) := Lib.hid (of_srt L)
    generalize (L.mergeSort fun x y => !(ltOf cmpU) y x) = M at *
    clear hg HO1 HC
    have HCO : Hid (∀ w2, OwnU w2 w.heap.size 31 (.slice (some ⟨g, 0, none⟩) L.length cap) M → Calls Tryz.prog 93 #[.slice (some ⟨g, 0, none⟩) L.length cap] w2 fun e w' => e = .returned (.slice (some ⟨g, 0, none⟩) (srt L).length cap) ∧ OwnU w' w.heap.size 31 (.slice (some ⟨g, 0, none⟩) (srt L).length cap) (srt L) ∧ Below w.heap.size w2 w') := Lib.hid (fun w2 h => by
      have h2 := compactS_any M g cap w.heap.size (by rw [HLM.out]; exact hm) w2 (by rw [HLM.out]; exact h)
      rw [HLM.out, HFIN.out] at h2
      exact h2)
    clear HLM HFIN
    go_wp2_with (first | ((with_reducible refine HS.out.mono ?_); rintro e w2 ⟨rfl, h1, h2⟩; have HO2 := Lib.hid h1; have HB2 := Lib.hid (HB1.out.trans h2); clear h1 h2) | ((with_reducible refine (HCO.out _ HO2.out).mono ?_); rintro e w3 ⟨rfl, h1, h2⟩; have HO3 := Lib.hid h1; have HB3 := Lib.hid (HB2.out.trans h2); clear h1 h2))
    go_ret
    exact ⟨⟨_, rfl, HO3.out⟩, HB3.out⟩
end Go.Proofs.YtmjonlffhhehjaaGreatDoor
/- Contract: recipe's Needs. Conditions: at most 400 lines, at most 2049 names each. -/
namespace Go.Proofs.YtmjonlffhhehjaaGreatDoor
open Go.RowKit
def needK (L : List Lk) : List Su := L.flatMap fun k => k.2.2.2
theorem needK_len : ∀ (L : List Lk), (∀ k ∈ L, k.2.2.2.length ≤ 2049) → (needK L).length ≤ 2049 * L.length
  | [], _ => Nat.zero_le _
  | k :: L, h => by
    have h1 := needK_len L (fun x hx => h x (List.mem_cons_of_mem _ hx))
    have h2 := h k List.mem_cons_self
    have e : needK (k :: L) = k.2.2.2 ++ needK L := rfl
    rw [e, List.length_append, List.length_cons]; omega
set_option maxHeartbeats 8000000 in
set_option maxRecDepth 100000 in
theorem needs12_any (L : List Ln) (q : Option Addr) (c : Nat) (w : World) (hm : L.length ≤ 400) (hn : ∀ l ∈ L, l.2.2.2.2.length ≤ 2049) (hs : Sees w w.heap.size q (rowL L)) (hb : Lnb w L) :
    Calls Tryz.prog 20 #[.slice q L.length c] w fun e w' => (∃ v, e = .returned v ∧ OwnU w' w.heap.size 31 v (srt (needK (L.map keyL)))) ∧ Below w.heap.size w w' := by
  have HS := Lib.hid hs
  have HLB := Lib.hid hb
  have HM := Lib.hid hm
  have HN := Lib.hid hn
  have HO0 := Lib.hid (OwnU.nil w w.heap.size 31)
  clear hs hb hn
  go_enter Tryz.func20, Tryz.ntmps20
  go_upto_region 3 with fail
  go_loopw [3, 8] (fun v vi wr => ∃ j : Nat, j ≤ L.length ∧ vi = .int .i64 j ∧ OwnU wr w.heap.size 31 v (needK ((L.take j).map keyL)) ∧ Below w.heap.size w wr) (fun _ vi _ => L.length - (intOf vi).toNat)
  case atStart => exact ⟨0, by omega, rfl, HO0.out, Below.refl _ _⟩
  case round =>
    clear HO0
    rename_i wr
    obtain ⟨j, hj, rfl, hrow, hB⟩ := hrel
    have HROW := Lib.hid hrow
    have HB := Lib.hid hB
    clear hrow hB
    have HLEN : Hid ((needK ((L.take j).map keyL)).length ≤ 2049 * 400) := Lib.hid (by
      have h := needK_len ((L.take j).map keyL) (fun k hk => by
        obtain ⟨l, hl, rfl⟩ := List.mem_map.1 hk
        exact HN.out l (List.mem_of_mem_take hl))
      rw [List.length_map, List.length_take] at h
      omega)
    by_cases hlt : j < L.length
    · obtain ⟨ad, rfl, _, hcell⟩ := Sees.ln (HS.out.keep HB.out) hlt
      obtain ⟨p, hp⟩ : ∃ p, p = L[j] := ⟨_, rfl⟩
      have hmem : p ∈ L := by rw [hp]; exact List.getElem_mem hlt
      have HTK : Hid (needK ((L.take (j + 1)).map keyL) = needK ((L.take j).map keyL) ++ p.2.2.2.2) := Lib.hid (by rw [List.take_add_one, List.getElem?_eq_getElem hlt, ← hp, List.map_append]; unfold needK; rw [List.flatMap_append]; simp [keyL])
      rw [← hp] at hcell
      have hus := (HLB.out p hmem).keep HB.out
      have HSP := Lib.hid (HN.out p hmem)
      have HCELL := Lib.hid (hcell wr (Below.refl _ _))
      have HONE := Lib.hid hus.one
      obtain ⟨x, d, s, v, N⟩ := p
      obtain ⟨qn, cn, hv, n1, n2, n3⟩ := hus
      simp only [] at hv n1 n2 n3
      subst hv
      have HUS : Hid ((qn = none → cn = 0) ∧ Sees wr wr.heap.size qn (rowU N)) := Lib.hid ⟨n2, n3⟩
      clear hcell hp hmem n1 n2 n3
      have hjj : (j : Int) < (L.length : Int) := by omega
      have kll : j < 1000000 := by omega
      go_upto_region 4 with fail
      refine wp_region_lit ?_
      try simp only [Act.put, List.setIfInBounds_toArray, List.set_cons_zero, List.set_cons_succ]
      refine lp_pure (v := ?_) (by kernel_rfl) ?_ ?_
      rotate_left
      · go_simp; try with_reducible rfl
      try simp only [Act.put, List.setIfInBounds_toArray, List.set_cons_zero, List.set_cons_succ]
      refine lp_pure (by kernel_rfl) (load_ln 24 34 elLn (.tmp 10) rfl (ad.add (j * 35)) rfl (x, d, s, .slice qn N.length cn, N) HCELL.out) ?_
      try simp only [Act.put, List.setIfInBounds_toArray, List.set_cons_zero, List.set_cons_succ]
      refine wp_copy_ln rfl rfl rfl (.tmp 5) (.tmp 11) rfl (x, d, s, .slice qn N.length cn, N) HONE.out rfl rfl ?_
      intro w7 h1 h2
      have HP := Lib.hid h1
      have HB7 := Lib.hid (HB.out.trans (h2.mono HB.out.size))
      have HR7 := Lib.hid (HROW.out.keep h2)
      have HU7 : Hid (Sees w7 w7.heap.size qn (rowU N)) := Lib.hid ((HUS.out.2.keep h2).more h2.size)
      have HQ7 := Lib.hid HUS.out.1
      clear h1 h2 HCELL HROW HB HUS
      generalize wr.heap.size = b at *
      try simp only [Act.put, List.setIfInBounds_toArray, List.set_cons_zero, List.set_cons_succ]
      refine wpList_nil ?_
      have c34 := HP.out.cellv (i := 34) (encL_n _)
      go_upto_region 5 with fail
      refine wp_region_lit ?_
      try simp only [Act.put, List.setIfInBounds_toArray, List.set_cons_zero, List.set_cons_succ]
      refine lp_pure (v := ?_) (by kernel_rfl) ?_ ?_
      rotate_left
      · go_simp; try with_reducible rfl
      try simp only [Act.put, List.setIfInBounds_toArray, List.set_cons_zero, List.set_cons_succ]
      refine lp_pure (v := ?_) (by kernel_rfl) ?_ ?_
      rotate_left
      · go_simp; try with_reducible rfl
      try simp only [Act.put, List.setIfInBounds_toArray, List.set_cons_zero, List.set_cons_succ]
      refine lp_pure (v := ?_) (by kernel_rfl) ?_ ?_
      rotate_left
      · go_simp; try with_reducible rfl
      try simp only [Act.put, List.setIfInBounds_toArray, List.set_cons_zero, List.set_cons_succ]
      refine wpList_append_su rfl 32 31 elSum (.tmp 12) (.tmp 14) rfl w.heap.size _ _ rfl HR7.out qn N N.length cn w7.heap.size rfl rfl HQ7.out HU7.out (by have := HLEN.out; have := HSP.out; simp only [] at this; omega) HB7.out.size ?_
      intro v9 w9 h1 h2
      have HR9 := Lib.hid h1
      have HB9 := Lib.hid (HB7.out.trans h2)
      clear h1 h2
      try simp only [Act.put, List.setIfInBounds_toArray, List.set_cons_zero, List.set_cons_succ]
      refine lp_pure (v := ?_) (by kernel_rfl) ?_ ?_
      rotate_left
      · go_simp; try with_reducible rfl
      try simp only [Act.put, List.setIfInBounds_toArray, List.set_cons_zero, List.set_cons_succ]
      refine wpList_nil ?_
      go_wp2_with fail
      go_roundw
      case rel => exact ⟨j + 1, by omega, by go_num, by rw [HTK.out]; exact HR9.out, HB9.out⟩
      case measure => simp [intOf]; omega
    · have hjl : j = L.length := by omega
      subst hjl
      have kk : ¬ ((L.length : Int) < (L.length : Int)) := by omega
      have hr := HROW.out
      rw [List.take_length] at hr HLEN
      have HR := Lib.hid hr
      clear hr HROW
      obtain ⟨qa, ca, hva, _, _, hsa⟩ := HR.out.us
      subst hva
      have HOF := Lib.hid (setOf_any _ qa ca (by have := HLEN.out; omega) wr hsa)
      clear hsa
      go_wp2_with ((with_reducible refine HOF.out.mono ?_); rintro e w5 ⟨⟨v5, rfl, ho⟩, hb⟩; have HO5 := Lib.hid (ho.less HB.out.size); have HB5 := Lib.hid (HB.out.trans (hb.mono HB.out.size)); clear ho hb)
      go_ret
      exact ⟨⟨_, rfl, HO5.out⟩, HB5.out⟩
end Go.Proofs.YtmjonlffhhehjaaGreatDoor
/- RecipeKnown's closed facts: which recipes may not be, what is baked and read of one. No condition. -/
namespace Go.Proofs.YtmjonlffhhehjaaGreatDoor
open Go.RowKit
def oneS : Su := ⟨1#8 :: List.replicate 31 0#8, rfl⟩
def pC : ByteArray := ⟨#[65]⟩
def pB : ByteArray := ⟨#[98]⟩
def pW : ByteArray := ⟨#[46, 119, 111, 114, 107]⟩
def z2049 : List Su := List.replicate 2049 zSu
def bad0 : List Lk := [(pC, false, zSu, [])]
def bad1 : List Lk := [(pAB, false, zSu, [])]
def bad2 : List Lk := [(pB, false, zSu, []), (pA, false, zSu, [])]
def bad3 : List Lk := [(pW, true, zSu, [])]
def bad4 : List Lk := [(pA, true, zSu, [zSu])]
def bad5 : List Lk := [(pA, true, oneS, [])]
def bad6 : List Lk := [(pA, false, zSu, []), (pAB, false, zSu, [])]
def bad7 : List Lk := [(pA, false, zSu, z2049)]
theorem bad0_no : goodK bad0 = false := by kernel_rfl
theorem bad1_no : goodK bad1 = false := by kernel_rfl
theorem bad2_no : goodK bad2 = false := by kernel_rfl
theorem bad3_no : goodK bad3 = false := by kernel_rfl
theorem bad4_no : goodK bad4 = false := by kernel_rfl
theorem bad5_no : goodK bad5 = false := by kernel_rfl
theorem bad6_no : goodK bad6 = false := by kernel_rfl
theorem bad7_no : goodK bad7 = false := by kernel_rfl
theorem tH_one : ¬ shaU tH = oneS := fun h => by
  have h1 : (shaU tH).1 = oneS.1 := congrArg Subtype.val h
  have h2 : ((shaU tH).1 == oneS.1) = false := by kernel_rfl
  rw [h1] at h2
  simp at h2
theorem need_one : (srt (needK smR)).length = 1 := by kernel_rfl
theorem put_len : (putR smR).length = 73 := by kernel_rfl
theorem get_all : getP (putR smR) = (0, smR) := by kernel_rfl
theorem get_less : (getP ((putR smR).take 72)).1 = 3 := by kernel_rfl
theorem get_more : (getP (putR smR ++ [0#8])).1 = 3 := by kernel_rfl
theorem get_two : (getP [1#8, 97#8, 2#8]).1 = 2 := by kernel_rfl
theorem get_big : (getP [69#8]).1 = 2 := by kernel_rfl
theorem get_none : getP [] = (0, []) := by kernel_rfl
theorem get_A : (getP [1#8, 65#8, 1#8]).1 = 2 := by kernel_rfl
theorem of_empty : ofP [(⟨#[]⟩, false, .slice none 0 0, [])] = [] := by kernel_rfl
def wkT (v : Value) : List Ent := [(pW, true, .slice none 0 0, []), (pA, true, .slice none 0 0, []), (pAB, false, v, tH)]
theorem wk_of (v : Value) : ofP (wkT v) = smR := by kernel_rfl
theorem bake_none : (bakeP [] smR).2 = 5 := by kernel_rfl
def wrK : List Lk := [(pA, true, zSu, []), (pAB, false, oneS, [shaU tH])]
theorem bake_wrong (v : Value) : (bakeP [(shaU tH, v, tH)] wrK).2 = 11 := by kernel_rfl
end Go.Proofs.YtmjonlffhhehjaaGreatDoor
/- Helpers of RecipeKnown: literal lines and recipes. No condition. -/
namespace Go.Proofs.YtmjonlffhhehjaaGreatDoor
open Go.RowKit
/-- A value reads as lines whose names are there. -/
def LF (w : World) (v : Value) (L : List Ln) : Prop := LnV w v L ∧ Lnb w L
theorem LF.keep {w w' : World} {v : Value} {L : List Ln} (h : LF w v L) (hb : Below w.heap.size w w') : LF w' v L := ⟨h.1.keep hb, h.2.keep hb⟩
theorem LF.one {w : World} {p : Ln} (hu : Us w p.2.2.2.1 p.2.2.2.2) : LF (w.alloc (.cells (encL p).toArray 34)) (.slice (some ⟨w.heap.size, 0, none⟩) 1 1) [p] :=
  ⟨⟨_, 1, rfl, Nat.le_refl _, fun h => (by cases h), Has.ln (Has.made' _ _ _ _ rfl) (by simp)⟩, fun x hx => by rw [List.mem_singleton.1 hx]; exact hu.keep ((Below.refl _ _).alloc (Nat.le_refl _) _)⟩
theorem LF.two {w : World} {p r : Ln} (hp : Us w p.2.2.2.1 p.2.2.2.2) (hr : Us w r.2.2.2.1 r.2.2.2.2) : LF (w.alloc (.cells (rowL [p, r]).toArray 34)) (.slice (some ⟨w.heap.size, 0, none⟩) 2 2) [p, r] :=
  ⟨⟨_, 2, rfl, Nat.le_refl _, fun h => (by cases h), Sees.of_has (Has.made' w 34 _ _ rfl) (by simp)⟩, fun x hx => by
    rcases List.mem_cons.1 hx with rfl | hx
    · exact hp.keep ((Below.refl _ _).alloc (Nat.le_refl _) _)
    · rw [List.mem_singleton.1 hx]; exact hr.keep ((Below.refl _ _).alloc (Nat.le_refl _) _)⟩
theorem Us.nilv (w : World) : Us w (.slice none 0 0) [] := (OwnU.nil w 0 31).us
theorem Us.of_has {w : World} {g : Nat} {T : TypeId} {L : List Su} (h : Has w g T (rowU L)) : Us w (.slice (some ⟨g, 0, none⟩) L.length L.length) L :=
  ⟨_, _, rfl, Nat.le_refl _, fun h => (by cases h), Sees.of_has h (by unfold Has at h; exact (Array.getElem?_eq_some_iff.1 h).1)⟩
theorem rowU_zeros : ∀ n, rowU (List.replicate n zSu) = zrowU n
  | 0 => rfl
  | n + 1 => by
    have e : rowU (List.replicate (n + 1) zSu) = encU zSu ++ rowU (List.replicate n zSu) := rfl
    rw [e, rowU_zeros n]
    have e2 : encU zSu = List.replicate 32 (.int .u8 0) := by kernel_rfl
    unfold zrowU
    rw [e2, List.replicate_append_replicate]
    congr 1; omega
theorem smL_size (n1 n2 : Value) : ∀ l ∈ smL n1 n2, l.1.size < 9223372036854775808 ∧ l.2.2.2.2.length < 9223372036854775808 := fun l hl => by
  rcases List.mem_cons.1 hl with rfl | hl
  · exact ⟨Nat.lt_of_lt_of_le (show pA.size < 10 by decide) (by omega), Nat.lt_of_lt_of_le (show 0 < 10 by decide) (by omega)⟩
  · rw [List.mem_singleton.1 hl]; exact ⟨Nat.lt_of_lt_of_le (show pAB.size < 10 by decide) (by omega), Nat.lt_of_lt_of_le (show 1 < 10 by decide) (by omega)⟩
theorem smL_len (n1 n2 : Value) : (smL n1 n2).length < 9223372036854775808 := Nat.lt_of_lt_of_le (show (smL n1 n2).length < 3 from Nat.lt_succ_self 2) (by omega)
theorem get_said {b : List (BitVec 8)} {v : Value} {w : World} {k : Nat} (h : (getP b).1 = k) (hl : b.length ≤ 1000) (hb : Bs w v b) :
    Calls Tryz.prog 15 #[v] w fun e w' => (∃ v R, e = .returned (.tuple #[v, .int .i64 (k : Int)]) ∧ LnV w' v R ∧ LnO w' w.heap.size 31 R ∧ R.map keyL = (getP b).2) ∧ Below w.heap.size w w' := by
  subst h
  exact (get12_any b v w (by omega) hb).mono fun e w' h => h
theorem OwB.empty (w : World) (base : Nat) (hb : base ≤ w.heap.size) : OwB (w.alloc (.cells #[] 5)) base (.slice (some ⟨w.heap.size, 0, none⟩) 0 0) [] :=
  World.ownsRow_made w #[] 0 hb (Nat.zero_le _) (by simp)
/-- A recipe that may not be. -/
def BadAt (w : World) (v : Value) : Prop := ∃ L, LF w v L ∧ L.length ≤ 2 ∧ (∀ l ∈ L, l.1.size ≤ 100 ∧ l.2.2.2.2.length ≤ 2049) ∧ goodK (L.map keyL) = false
theorem BadAt.keep {w w' : World} {v : Value} (h : BadAt w v) (hb : Below w.heap.size w w') : BadAt w' v := by
  obtain ⟨L, h1, h2⟩ := h
  exact ⟨L, h1.keep hb, h2⟩
theorem BadAt.one {w : World} {v : Value} {p : Ln} (h : LF w v [p]) (hs : p.1.size ≤ 100 ∧ p.2.2.2.2.length ≤ 2049) (hg : goodK [keyL p] = false) : BadAt w v :=
  ⟨[p], h, by simp, fun l hl => by rw [List.mem_singleton.1 hl]; exact hs, hg⟩
theorem BadAt.two {w : World} {v : Value} {p r : Ln} (h : LF w v [p, r]) (hs : p.1.size ≤ 100 ∧ p.2.2.2.2.length ≤ 2049) (hr : r.1.size ≤ 100 ∧ r.2.2.2.2.length ≤ 2049) (hg : goodK [keyL p, keyL r] = false) : BadAt w v :=
  ⟨[p, r], h, by simp, fun l hl => by
    rcases List.mem_cons.1 hl with rfl | hl
    · exact hs
    · rw [List.mem_singleton.1 hl]; exact hr, hg⟩
theorem bake_bad {M : List Pc} {R : List Lk} (h : goodK R = false) : bakeP M R = ([], 1) := by unfold bakeP; rw [h]; rfl
theorem put_bad {R : List Lk} (h : goodK R = false) : putR R = [] := by unfold putR; rw [h]; rfl
theorem built_b0 (x : ByteArray) : Tryz.prog.built 34 [(0, .string x)] = some (encL (x, false, zSu, .slice none 0 0, [])).toArray := by kernel_rfl
theorem built_b4 (x : ByteArray) (q : Option Addr) (n c : Nat) (N : List Su) : Tryz.prog.built 34 [(0, .string x), (1, .bool true), (3, .slice q n c)] = some (encL (x, true, zSu, .slice q n c, N)).toArray := by kernel_rfl
theorem built_b5 (x : ByteArray) : Tryz.prog.built 34 [(0, .string x), (1, .bool true), (2, .agg (encU oneS).toArray)] = some (encL (x, true, oneS, .slice none 0 0, [])).toArray := by kernel_rfl
theorem built_b7 (x : ByteArray) (q : Option Addr) (n c : Nat) (N : List Su) : Tryz.prog.built 34 [(0, .string x), (3, .slice q n c)] = some (encL (x, false, zSu, .slice q n c, N)).toArray := by kernel_rfl
theorem built_s1 : Tryz.prog.built 31 [(0, .int .u8 1)] = some (encU oneS).toArray := by kernel_rfl
theorem run_none_b (w : World) : (Instr.buildSlice 40 0 #[]).run Tryz.prog w = .ok (.slice (some ⟨w.heap.size, 0, none⟩) 0 0) (w.alloc (.cells #[] 5)) := by
  obtain ⟨i0, hi, hz0, hz1, hz2⟩ := info_parts u8_info
  simp [Instr.buildSlice, run_underlying Tryz.underlying40, sizeOf, typeInfo, hi, newRow, Instr.fill]
  rw [show Array.range 0 = #[] by kernel_rfl, Array.map_empty]
section
variable {o : Oper} {a : Act} {w : World} {Q : Exit → Act → World → Prop} {K : Act → World → Prop}
theorem wp_two_ln (x y : Operand) (ho : o.op = .buildSlice 24 2 #[(0, x), (1, y)]) (e f : Ln) (hx : a.eval x = .agg (encL e).toArray) (hy : a.eval y = .agg (encL f).toArray)
    (h : K (a.put o.dst (.slice (some ⟨w.heap.size, 0, none⟩) 2 2)) (w.alloc (.cells (rowL [e, f]).toArray 34))) : o.wp Tryz.prog a w K Q := by
  obtain ⟨i0, hi, hz0, hz1, hz2⟩ := info_parts elLn.2.2
  refine wp_buildSlice 24 34 2 _ ho (rowL [e, f]).toArray i0 _ elLn.1 hi hz0 (by rw [hz1]; omega) (by rw [hz1]; omega) ?_ h
  rw [hz1]
  simp only [List.map_toArray, List.map_cons, List.map_nil, hx, hy]
  obtain ⟨e1, e2, ⟨l, hl⟩, e4, e5⟩ := e
  obtain ⟨f1, f2, ⟨m, hm⟩, f4, f5⟩ := f
  match l, hl, m, hm with
  | [a0, a1, a2, a3, a4, a5, a6, a7, a8, a9, b0, b1, b2, b3, b4, b5, b6, b7, b8, b9, c0, c1, c2, c3, c4, c5, c6, c7, c8, c9, d0, d1], _, [a0', a1', a2', a3', a4', a5', a6', a7', a8', a9', b0', b1', b2', b3', b4', b5', b6', b7', b8', b9', c0', c1', c2', c3', c4', c5', c6', c7', c8', c9', d0', d1'], _ => show _ = _; kernel_rfl
theorem wp_make_su (x y : Operand) (n : Nat) (ho : o.op = .makeSlice 32 x y) (hx : a.eval x = .int .i64 (n : Int)) (hy : a.eval y = .int .i64 (n : Int)) (hn : n ≤ 1000000)
    (h : K (a.put o.dst (.slice (some ⟨w.heap.size, 0, none⟩) n n)) (w.alloc (.cells (rowU (List.replicate n zSu)).toArray 31))) : o.wp Tryz.prog a w K Q := by
  have e : madeCells (Array.replicate 32 (Value.int .u8 0)) (n * 32) = (rowU (List.replicate n zSu)).toArray := by
    rw [rowU_zeros, ← zrU_row]
  unfold Oper.wp execOp
  simp only [ho, hx, hy, Sem.run_bind, runS_made n hn w, Result.andThen_ok, e]
  exact h
theorem wp_none_b (ho : o.op = .buildSlice 40 0 #[])
    (h : K (a.put o.dst (.slice (some ⟨w.heap.size, 0, none⟩) 0 0)) (w.alloc (.cells #[] 5))) : o.wp Tryz.prog a w K Q := by
  unfold Oper.wp execOp
  simp only [ho, Sem.run_bind]
  rw [Array.map_empty, run_none_b]
  exact h
theorem rec_info : (Tryz.prog.info? 24).map (fun i => (i.zero, i.size, i.bytes)) = some (some (.slice none 0 0), 1, 24) := by kernel_rfl
theorem wp_lit8r (parts : Array (Nat × Operand)) (ho : o.op = .buildSlice 35 8 parts) (cs : Array Value)
    (hf : Instr.fill (fun i => some (i * 1, 1)) ((Array.range (8 * 1)).map ((Value.slice none 0 0).cells[· % (Value.slice none 0 0).cells.size]!)) (parts.map fun (i, x) => (i, a.eval x)).toList = some cs)
    (h : K (a.put o.dst (.slice (some ⟨w.heap.size, 0, none⟩) 8 8)) (w.alloc (.cells cs 24))) : o.wp Tryz.prog a w K Q := by
  obtain ⟨i0, hi, hz0, hz1, _⟩ := info_parts rec_info
  refine wp_buildSlice 35 24 8 parts ho cs i0 _ Tryz.underlying35 hi hz0 (by rw [hz1]; omega) (by rw [hz1]; omega) ?_ h
  rw [hz1]; exact hf
end
end Go.Proofs.YtmjonlffhhehjaaGreatDoor
/- What the rows' condition on the four listed variables gives the walks; that a start meets it. -/
namespace Go.Proofs.YtmjonlffhhehjaaGreatDoor
open Go.ChangeShapes Go.WideShapes Go.ChangeAt Go.RowKit
theorem own : ownKnob Tryz.prog.godebug = none := by kernel_rfl
theorem gFirst : Tryz.prog.globalNamed "tallyman/sum.first" = some 0 := by kernel_rfl
theorem gRounds : Tryz.prog.globalNamed "tallyman/sum.rounds" = some 1 := by kernel_rfl
theorem tFirst : (Tryz.prog.globals[0]?).map (·.type) = some 106 := by kernel_rfl
theorem tRounds : (Tryz.prog.globals[1]?).map (·.type) = some 167 := by kernel_rfl
def laidVars : List (String × DataW Unit) := [("unicode/utf8.acceptRanges", Rows.laid_unicode_utf8_acceptRanges), ("tallyman/sum.first", Rows.laid_tallyman_sum_first), ("tallyman/sum.rounds", Rows.laid_tallyman_sum_rounds), ("unicode/utf8.first", Rows.laid_unicode_utf8_first)]
/-- Those of them that package sum reads. -/
def sumVars : List (String × DataW Unit) := [("tallyman/sum.first", Rows.laid_tallyman_sum_first), ("tallyman/sum.rounds", Rows.laid_tallyman_sum_rounds)]
def firstInts : List Int := start.list.map N
def roundInts : List Int := keys.map N
theorem laidVars_eq : sumVars = [("tallyman/sum.first", Lib.tabData .u32 firstInts), ("tallyman/sum.rounds", Lib.tabData .u32 roundInts)] := by kernel_rfl
theorem of_laid {W : World} (h0 : laidMetH Tryz.prog laidVars W) : Laid W := by
  rw [MakeChecks.laidMetH_plain _ _ _ (by kernel_rfl)] at h0
  have h : laidMet Tryz.prog (sumVars ++ [("unicode/utf8.first", Rows.laid_unicode_utf8_first)]) W := h0.tail
  rw [laidVars_eq] at h
  have h1 := Lib.tabIs_of_head gFirst tFirst Tryz.underlying106 Tryz.underlying105 (by kernel_rfl) (by kernel_rfl) h
  have h2 := Lib.tabIs_of_head gRounds tRounds Tryz.underlying167 Tryz.underlying105 (by kernel_rfl) (by kernel_rfl) h.tail
  have hlt : ∀ (g : Nat) v, W.cell? ⟨g, 0, none⟩ = some v → g < W.heap.size := by
    intro g v hv
    rcases Nat.lt_or_ge g W.heap.size with h | h
    · exact h
    · unfold World.cell? at hv
      rw [Array.getElem?_eq_none h] at hv
      cases hv
  refine ⟨⟨hlt _ _ (h2.cell gRounds 0 (by decide)), fun i hi => ?_⟩, hlt _ _ (h1.cell gFirst 0 (by decide)), fun i v hv => ?_⟩
  · have := h2.cell gRounds i (by simpa [roundInts, keys_length] using hi)
    rw [this]
    simp [roundInts, at32, List.getD_eq_getElem?_getD, List.getElem?_map, List.getElem?_eq_getElem (show i < keys.length by rw [keys_length]; exact hi)]
  · have hi : i < 8 := by have := (List.getElem?_eq_some_iff.1 hv).1; simpa [St.vals, St.list] using this
    have := h1.cell gFirst i (by simpa [firstInts, St.list] using hi)
    rw [this, ← hv, firstInts, St.vals, List.getElem?_map]
    have hl : i < start.list.length := hi
    simp [u32v, List.getD_eq_getElem?_getD, List.getElem?_map, List.getElem?_eq_getElem hl]
/-- A start that lays them meets the condition: closed facts. -/
theorem laid_met (os : Os) (args : Array Value) : laidMetH Tryz.prog laidVars ((World.laidAll Tryz.prog os laidVars).forCall (fun _ _ => 0) ⟨#[], args, []⟩).memory := by
  rw [MakeChecks.laidMetH_plain _ _ _ (by kernel_rfl)]
  exact laidMet_laidAll _ (by kernel_rfl) (by kernel_rfl)
end Go.Proofs.YtmjonlffhhehjaaGreatDoor
