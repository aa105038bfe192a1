/- Contract: the document's own Parse. No condition. -/
import Derived.Test.YtgaphplndpdhaaaDoorPbad
import Derived.Test.YtgaphplndpdhaaaDoorRtext
import Derived.StillTailTactics
namespace Go.Proofs.YtgaphplndpdhaaaDoor
open Go.RowKit
theorem Bmul16 (x : BitVec 8) : B x * 16 % 256 = B (x * 16) := by
  unfold B; rw [BitVec.toNat_mul]; simp
theorem Badd8 (x y : BitVec 8) : (B x + B y) % 256 = B (x + y) := by
  unfold B; rw [BitVec.toNat_add]; simp
/-- The digit that has been found among the first d. -/
def best (c : BitVec 8) (d : Nat) : BitVec 8 := if digOk c = true ∧ (digV c).toNat < d then digV c else 255
theorem digOk_lt (c : BitVec 8) (h : digOk c = true) : (digV c).toNat < 16 := by
  revert c; decide +kernel
theorem best_zero (c : BitVec 8) : best c 0 = 255 := by unfold best; rw [if_neg (by omega)]
theorem hexd_dig : ∀ d : Fin 16, ∀ c : BitVec 8, (hexd (BitVec.ofNat 8 d.val) = c) ↔ (digOk c = true ∧ digV c = BitVec.ofNat 8 d.val) := by decide +kernel
theorem best_yes (c : BitVec 8) (d : Nat) (hd : d < 16) (h : hexd (BitVec.ofNat 8 d) = c) : best c (d + 1) = BitVec.ofNat 8 d := by
  have h1 := (hexd_dig ⟨d, hd⟩ c).1 h
  have h2 : (digV c).toNat = d := by rw [h1.2]; simp; omega
  unfold best
  rw [if_pos ⟨h1.1, by omega⟩, h1.2]
theorem best_no (c : BitVec 8) (d : Nat) (hd : d < 16) (h : ¬ hexd (BitVec.ofNat 8 d) = c) : best c (d + 1) = best c d := by
  have h1 := fun x => h ((hexd_dig ⟨d, hd⟩ c).2 x)
  unfold best
  by_cases ho : digOk c = true
  · have h2 : (digV c).toNat ≠ d := fun e => h1 ⟨ho, by show digV c = BitVec.ofNat 8 d; rw [← e]; simp⟩
    by_cases h3 : (digV c).toNat < d
    · rw [if_pos ⟨ho, by omega⟩, if_pos ⟨ho, h3⟩]
    · rw [if_neg (by omega), if_neg (by omega)]
  · rw [if_neg (fun x => ho x.1), if_neg (fun x => ho x.1)]
theorem best_end (c : BitVec 8) : best c 16 = if digOk c = true then digV c else 255 := by
  unfold best
  by_cases ho : digOk c = true
  · rw [if_pos ⟨ho, digOk_lt c ho⟩, if_pos ho]
  · rw [if_neg (fun x => ho x.1), if_neg ho]
/-- The row behind i digits. -/
def prow (t : List (BitVec 8)) : Nat → List (BitVec 8)
  | 0 => List.replicate 32 0
  | i + 1 => (prow t i).set (i / 2) (at8 (prow t i) (i / 2) * 16 + digV (at8 t i))
theorem prow_length (t : List (BitVec 8)) (i : Nat) : (prow t i).length = 32 := by
  induction i with
  | zero => rfl
  | succ i ih => rw [prow, List.length_set, ih]
theorem nib_join : ∀ a b : BitVec 8, a.toNat < 16 → b.toNat < 16 → (0#8 * 16 + a) * 16 + b = (a <<< 4) ||| b := by
  intro a b ha hb
  have h : ∀ a : Fin 16, ∀ b : Fin 16, (0#8 * 16 + BitVec.ofNat 8 a.val) * 16 + BitVec.ofNat 8 b.val = (BitVec.ofNat 8 a.val <<< 4) ||| BitVec.ofNat 8 b.val := by decide +kernel
  have := h ⟨a.toNat, ha⟩ ⟨b.toNat, hb⟩
  simpa using this
theorem at8_app (l r : List (BitVec 8)) (x : BitVec 8) (k : Nat) (h : l.length = k) : at8 (l ++ x :: r) k = x := by
  subst h; simp [at8]
theorem set_app (l r : List (BitVec 8)) (x y : BitVec 8) (k : Nat) (h : l.length = k) : (l ++ x :: r).set k y = l ++ y :: r := by
  subst h; rw [List.set_append_right _ _ (Nat.le_refl _)]; simp
theorem prow_even (t : List (BitVec 8)) : ∀ k, k ≤ 32 → (∀ j, j < 2 * k → digOk (at8 t j) = true) → prow t (2 * k) = digsTo t k ++ List.replicate (32 - k) 0
  | 0, _, _ => rfl
  | k + 1, hk, hd => by
    have ih := prow_even t k (by omega) (fun j hj => hd j (by omega))
    have hl := digsTo_length t k
    have e : List.replicate (32 - k) (0 : BitVec 8) = 0 :: List.replicate (32 - (k + 1)) 0 := by
      rw [show 32 - k = 32 - (k + 1) + 1 by omega, List.replicate_succ]
    rw [show 2 * (k + 1) = 2 * k + 1 + 1 by omega, prow, prow, ih, e, show (2 * k + 1) / 2 = k by omega, show 2 * k / 2 = k by omega,
      at8_app _ _ _ k hl, set_app _ _ _ _ k hl, at8_app _ _ _ k hl, set_app _ _ _ _ k hl, digsTo_succ, List.append_assoc]
    have h1 := digOk_lt _ (hd (2 * k) (by omega))
    have h2 := digOk_lt _ (hd (2 * k + 1) (by omega))
    have := nib_join (digV (at8 t (2 * k))) (digV (at8 t (2 * k + 1))) h1 h2
    unfold digAt
    rw [← this]
    rfl
theorem prow_full (t : List (BitVec 8)) (hd : ∀ j, j < 64 → digOk (at8 t j) = true) : prow t 64 = digsTo t 32 := by
  have := prow_even t 32 (Nat.le_refl _) hd
  simpa using this
theorem rdigit_q (x : BitVec 8) (h : x < 16) (w : World) :
    Calls Tryd.prog 23 #[.int .u8 (B x)] w fun e w' => e = .returned (.int .u8 (B (hexd x))) ∧ w' = w := (rdigit_any x h w).mono fun _ _ ⟨a, b⟩ => ⟨a, b.symm⟩
theorem rzrw_size : (Tryd.prog.info? 27).map (·.size) = some zrw.size := by kernel_rfl
set_option maxHeartbeats 4000000 in
set_option maxRecDepth 100000 in
theorem rparse_short (t : List (BitVec 8)) (ht : t.length ≠ 64) (w : World) :
    Calls Tryd.prog 8 #[.string (strB t)] w fun e w' => e = .returned (.tuple #[.agg zrw, .bool false]) ∧ Below w.heap.size w w' := by
  obtain ⟨s, hs⟩ : ∃ s, s = strB t := ⟨_, rfl⟩
  have hsz : ¬ (s.size : Int) = 64 := by rw [hs]; simp [strB, ByteArray.size]; omega
  have hsb : ((s.size : Int) != 64) = true := by simpa using hsz
  rw [← hs]
  clear hs ht
  go_enter Tryd.func8, Tryd.ntmps8
  go_upto_region 3 with fail
  generalize hw0 : (w.alloc _).alloc _ = w0
  have h2 : Has w0 w.heap.size 27 (brow 32 []) := by
    subst hw0; rw [brow_nil]; exact (Has.made' _ _ _ _ rfl).alloc _
  have h4 : Has w0 (w.heap.size + 1) 27 zrw.toList := by
    subst hw0; exact Has.made1 _ _ _ _ _ rfl
  have hB : Below w.heap.size w w0 := by
    subst hw0; exact ((Below.refl _ _).alloc (Nat.le_refl _) _).alloc (by simp) _
  clear hw0
  go_wp2_with (first
    | (refine wpList_load_row rfl 27 _ rfl (w.heap.size + 1) rfl 27 zrw (0, 0) _ h4 Tryd.underlying27 rfl rzrw_size ?_)
    | (refine wpList_store_row rfl 27 _ _ rfl w.heap.size zrw rfl rfl 27 _ h2 rzrw_size zrw_len zrw_one ?_))
  refine bodyPost_ret (v := .tuple #[.agg zrw, .bool false]) ?_ rfl ⟨rfl, below_row hB (by omega) _⟩
  have h3 := h2.row zrw
  have hrow := run_loadVar_row (P := Tryd.prog) (w0.setRow w.heap.size zrw) w.heap.size 27 27 zrw (0, 0) _ h3 Tryd.underlying27 rfl rzrw_size
  rw [results_cell_tmp rfl]
  generalize zrw = zz at *
  simp [asAddr, hrow, Result.andThen]
set_option maxHeartbeats 4000000 in
set_option maxRecDepth 100000 in
theorem rparse_long (t : List (BitVec 8)) (ht : t.length = 64) (K : Nat) (hK : K ≤ 64) (hd : ∀ j, j < K → digOk (at8 t j) = true) (hbad : K < 64 → digOk (at8 t K) = false) (w : World) :
    Calls Tryd.prog 8 #[.string (strB t)] w fun e w' => e = .returned (.tuple #[.agg (if K = 64 then ((prow t 64).map u8v).toArray else zrw), .bool (decide (K = 64))]) ∧ Below w.heap.size w w' := by
  obtain ⟨s, hs⟩ : ∃ s, s = strB t := ⟨_, rfl⟩
  have hsb : ((s.size : Int) != 64) = false := by rw [hs]; simp [strB, ByteArray.size, ht]
  have hix : ∀ k : Nat, k < 64 → ∀ w', (Instr.index 9 (.string s) (.int .i64 (k : Int))).run Tryd.prog w' = .ok (.int .u8 (B (at8 t k))) w' := fun k hk w' => by
    rw [hs]; exact str_index t k (by omega) _ w'
  rw [← hs]
  have HIX := Lib.hid hix
  have HD := Lib.hid hd
  have HBad := Lib.hid hbad
  clear hix hd ht hs hbad
  go_enter Tryd.func8, Tryd.ntmps8
  go_wp2_with fail
  generalize hw0 : (w.alloc _).alloc _ = w0
  have h2 : Has w0 w.heap.size 27 (brow 32 []) := by
    subst hw0; rw [brow_nil]; exact (Has.made' _ _ _ _ rfl).alloc _
  have h4 : Has w0 (w.heap.size + 1) 27 ((prow t 0).map u8v) := by
    subst hw0; exact Has.made1 _ _ _ _ _ rfl
  have hB : Below w.heap.size w w0 := by
    subst hw0; exact ((Below.refl _ _).alloc (Nat.le_refl _) _).alloc (by simp) _
  clear hw0
  go_loopw [5] (fun vi wr => ∃ i : Nat, i ≤ K ∧ vi = .int .i64 i ∧ Has wr w.heap.size 27 (brow 32 []) ∧ Has wr (w.heap.size + 1) 27 ((prow t i).map u8v) ∧ Below w.heap.size w wr) (fun vi _ => 64 - (intOf vi).toNat)
  case atStart => exact ⟨0, by omega, rfl, h2, h4, hB⟩
  case round =>
    clear h2 h4 hB
    obtain ⟨i, hi, rfl, h2, h4, hB⟩ := hrel
    by_cases hlt : i < 64
    · have k1 : (i : Int) < 64 := by omega
      have i1 := HIX.out i hlt
      have HW := Lib.hid (And.intro h2 (And.intro h4 hB))
      clear h2 h4 hB
      obtain ⟨c, hc⟩ : ∃ c, c = at8 t i := ⟨_, rfl⟩
      rw [← hc] at i1
      obtain ⟨wo, rfl⟩ : ∃ wo : World, wo = wr := ⟨_, rfl⟩
      have HCc := Lib.hid hc
      have I1 := Lib.hid i1
      clear hc i1
      go_wp2_with fail
      go_loopw [6, 7] (fun v6 v7 wr => ∃ d : Nat, d ≤ 16 ∧ v7 = .int .u8 d ∧ v6 = .int .u8 (B (best c d)) ∧ Has wr w.heap.size 27 (brow 32 []) ∧ Has wr (w.heap.size + 1) 27 ((prow t i).map u8v) ∧ Below w.heap.size w wr) (fun _ v7 _ => 16 - (intOf v7).toNat)
      case atStart => exact ⟨0, by omega, rfl, by rw [best_zero]; rfl, HW.out⟩
      case round =>
        clear HW
        obtain ⟨d, hd, rfl, rfl, h2, h4, hB⟩ := hrel
        have HW := Lib.hid (And.intro h2 (And.intro h4 hB))
        clear h2 h4 hB
        by_cases hd16 : d < 16
        · have k2 : (d : Int) < 16 := by omega
          have i1 := I1.out
          have hdB : (d : Int) = B (BitVec.ofNat 8 d) := B_ofNat d (by omega)
          have hq := fun w1 => rdigit_q (BitVec.ofNat 8 d) (by simp [BitVec.lt_def]; omega) w1
          rw [← hdB] at hq
          have HQ := Lib.hid hq
          by_cases hh : hexd (BitVec.ofNat 8 d) = c
          · have he : (B (hexd (BitVec.ofNat 8 d)) == B c) = true := by rw [hh]; simp
            have hbe := best_yes c d hd16 hh
            have HBE : Hid ((d : Int) = B (best c (d + 1))) := Lib.hid (by rw [hbe]; exact hdB)
            generalize B (hexd (BitVec.ofNat 8 d)) = hx at *
            clear hdB hh hq hbe
            go_wp2_with fail
            refine wp_region_still_lit (by kernel_rfl) (by kernel_rfl) ?_
            still_step
            still_call (HQ.out _)
            iterate 4 still_step
            refine wpStill_nil ?_
            change Exit.then _ _ _ _ wr.drew
            have HW2 : Hid (Has wr.drew w.heap.size 27 (brow 32 []) ∧ Has wr.drew (w.heap.size + 1) 27 ((prow t i).map u8v) ∧ Below w.heap.size w wr.drew) := Lib.hid ⟨HW.out.1, HW.out.2.1, HW.out.2.2.drew⟩
            generalize wr.drew = wq at *
            go_wp2_with fail
            go_roundw
            case rel => exact ⟨d + 1, by omega, by go_num, by rw [HBE.out], HW2.out⟩
            case measure => simp [intOf]; omega
          · have he : (B (hexd (BitVec.ofNat 8 d)) == B c) = false := by
              rw [beq_eq_false_iff_ne]; exact fun h => hh (B_inj h)
            have hbe := best_no c d hd16 hh
            have HBE : Hid (B (best c d) = B (best c (d + 1))) := Lib.hid (by rw [hbe])
            generalize B (hexd (BitVec.ofNat 8 d)) = hx at *
            clear hdB hh hq hbe
            go_wp2_with fail
            refine wp_region_still_lit (by kernel_rfl) (by kernel_rfl) ?_
            still_step
            still_call (HQ.out _)
            iterate 4 still_step
            refine wpStill_nil ?_
            change Exit.then _ _ _ _ wr.drew
            have HW2 : Hid (Has wr.drew w.heap.size 27 (brow 32 []) ∧ Has wr.drew (w.heap.size + 1) 27 ((prow t i).map u8v) ∧ Below w.heap.size w wr.drew) := Lib.hid ⟨HW.out.1, HW.out.2.1, HW.out.2.2.drew⟩
            generalize wr.drew = wq at *
            go_wp2_with fail
            go_roundw
            case rel => exact ⟨d + 1, by omega, by go_num, by rw [HBE.out], HW2.out⟩
            case measure => simp [intOf]; omega
        · have hd16' : d = 16 := by omega
          have k2 : ¬ (d : Int) < 16 := by omega
          have hbe := best_end c
          rw [hd16']
          have h2 := HW.out.1
          have h4 := HW.out.2.1
          have HB := Lib.hid HW.out.2.2
          clear HW hd hd16 hd16'
          by_cases hiK : i < K
          · have ho := HD.out i hiK
            rw [← HCc.out] at ho
            rw [hbe, if_pos ho]
            have hv16 := digOk_lt c ho
            have hne : (B (digV c) == 255) = false := by rw [beq_eq_false_iff_ne]; unfold B; omega
            have hi2 : (i : Int) / 2 = ((i / 2 : Nat) : Int) := by omega
            have hi3 : ((i / 2 : Nat) : Int) < 32 := by omega
            have hpl := prow_length t i
            have cx := h4.cellv (at8_of (prow t i) (i / 2) (by omega))
            have cf := h4.free (i / 2)
            have hps : prow t (i + 1) = (prow t i).set (i / 2) (at8 (prow t i) (i / 2) * 16 + digV c) := by rw [HCc.out]; rfl
            have HPS : Hid (((prow t i).map u8v).set (i / 2) (u8v (at8 (prow t i) (i / 2) * 16 + digV c)) = (prow t (i + 1)).map u8v) := Lib.hid (by rw [hps, List.map_set])
            have H2 := Lib.hid h2
            have H4 := Lib.hid h4
            generalize at8 (prow t i) (i / 2) = xx at *
            generalize i / 2 = ih at *
            have m1 := Bmul16 xx
            have m2 := Badd8 (xx * 16) (digV c)
            generalize digV c = vv at *
            generalize xx * 16 = x16 at *
            clear hbe ho hv16 hpl hps h2 h4
            go_wp2_with fail
            go_roundw
            case rel =>
              refine ⟨i + 1, by omega, by go_num, H2.out.off (by simp) _, ?_, HB.out.setCell (by simp) _⟩
              have := H4.out.put ih (u8v (x16 + vv))
              rw [HPS.out] at this
              exact this
            case measure => simp [intOf]; omega
          · have hiK' : i = K := by omega
            have ho := HBad.out (by omega)
            rw [← hiK', ← HCc.out] at ho
            rw [hbe, if_neg (by rw [ho]; simp)]
            have hne : (B (255 : BitVec 8) == 255) = true := by decide
            have HK : Hid (¬ K = 64) := Lib.hid (by omega)
            generalize B (255 : BitVec 8) = v255 at *
            clear hbe ho hiK hiK' h4
            go_wp2_with (refine wpList_store_row rfl 27 _ _ rfl w.heap.size zrw rfl rfl 27 _ h2 rzrw_size zrw_len zrw_one ?_)
            refine bodyPost_ret (v := .tuple #[.agg zrw, .bool false]) ?_ rfl ⟨rfl, below_row HB.out (by omega) _⟩
            have h3 := h2.row zrw
            have hrow := run_loadVar_row (P := Tryd.prog) _ w.heap.size 27 27 zrw (0, 0) _ h3 Tryd.underlying27 rfl rzrw_size
            rw [results_cell_tmp rfl]
            generalize zrw = zz at *
            simp [asAddr, hrow, Result.andThen]
    · have hi64 : i = 64 := by omega
      have hK64 : K = 64 := by omega
      have k1 : ¬ (i : Int) < 64 := by omega
      have HK := Lib.hid hK64
      rw [hi64] at h4
      have HB := Lib.hid hB
      have HL1 : Hid (((prow t 64).map u8v).length = 32) := Lib.hid (by rw [List.length_map, prow_length])
      have HV1 : Hid (((prow t 64).map u8v).toArray.all (·.oneCell') = true) := Lib.hid (u8v_one _)
      have HL0 : Hid ((brow 32 []).length = 32) := Lib.hid rfl
      have i32 : (Tryd.prog.info? 27).map (·.size) = some 32 := by kernel_rfl
      obtain ⟨ts, hts⟩ : ∃ ts, ts = (prow t 64).map u8v := ⟨_, rfl⟩
      rw [← hts] at h4 HL1 HV1
      have HTS := Lib.hid hts
      clear hB hts hi hlt hi64 hK64
      go_wp2_with (first
        | (refine wpList_load_row rfl 27 _ rfl (w.heap.size + 1) rfl 27 ts.toArray (0, 0) _ h4 Tryd.underlying27 rfl (by rw [List.size_toArray, HL1.out]; exact i32) ?_)
        | (refine wpList_store_row rfl 27 _ _ rfl w.heap.size ts.toArray rfl rfl 27 _ h2 (by rw [List.size_toArray, HL1.out]; exact i32) (by rw [List.size_toArray, List.size_toArray, HL1.out, HL0.out]) HV1.out ?_))
      refine bodyPost_ret (v := .tuple #[.agg ts.toArray, .bool true]) ?_ rfl ⟨by rw [HTS.out], below_row HB.out (by omega) _⟩
      have h3 := h2.rowl ts
      have hrow := run_loadVar_row (P := Tryd.prog) _ w.heap.size 27 27 ts.toArray (0, 0) _ h3 Tryd.underlying27 rfl (by rw [List.size_toArray, HL1.out]; exact i32)
      rw [results_cell_tmp rfl]
      generalize ts.toArray = zz at *
      simp [asAddr, hrow, Result.andThen]
/-- What Parse answers of a text. -/
def pOk (t : List (BitVec 8)) : Bool := decide (t.length = 64) && (List.range 64).all fun j => digOk (at8 t j)
theorem pOk_iff (t : List (BitVec 8)) : pOk t = true ↔ t.length = 64 ∧ ∀ j, j < 64 → digOk (at8 t j) = true := by
  unfold pOk; simp
theorem pOk_yes (t : List (BitVec 8)) (h : t.length = 64 ∧ ∀ j, j < 64 → digOk (at8 t j) = true) : pOk t = true := (pOk_iff t).2 h
theorem pOk_no (t : List (BitVec 8)) (h : ¬ (t.length = 64 ∧ ∀ j, j < 64 → digOk (at8 t j) = true)) : pOk t = false := by
  cases hp : pOk t
  · rfl
  · exact absurd ((pOk_iff t).1 hp) h
def pL (t : List (BitVec 8)) : List (BitVec 8) := if pOk t then digsTo t 32 else zero32
theorem pL_length (t : List (BitVec 8)) : (pL t).length = 32 := by
  unfold pL; split
  · exact digsTo_length t 32
  · rfl
/-- The first digit that is none. -/
theorem first_bad (t : List (BitVec 8)) : ∀ n, (∀ j, j < n → digOk (at8 t j) = true) ∨ ∃ K, K < n ∧ digOk (at8 t K) = false ∧ ∀ j, j < K → digOk (at8 t j) = true
  | 0 => .inl (fun j hj => absurd hj (by omega))
  | n + 1 => by
    rcases first_bad t n with h | ⟨K, h1, h2, h3⟩
    · by_cases hd : digOk (at8 t n) = true
      · exact .inl (fun j hj => by
          rcases Nat.lt_or_ge j n with h4 | h4
          · exact h j h4
          · rw [show j = n by omega]; exact hd)
      · exact .inr ⟨n, by omega, by simpa using hd, h⟩
    · exact .inr ⟨K, by omega, h2, h3⟩
theorem rparse_all (t : List (BitVec 8)) (w : World) :
    Calls Tryd.prog 8 #[.string (strB t)] w fun e w' => e = .returned (.tuple #[.agg ((pL t).map u8v).toArray, .bool (pOk t)]) ∧ Below w.heap.size w w' := by
  by_cases ht : t.length = 64
  · rcases first_bad t 64 with h | ⟨K, h1, h2, h3⟩
    · have ho : pOk t = true := pOk_yes t ⟨ht, h⟩
      have := rparse_long t ht 64 (Nat.le_refl _) h (fun h => absurd h (by omega)) w
      rw [if_pos rfl, prow_full t h] at this
      unfold pL
      rw [ho]
      exact this
    · have ho : pOk t = false := pOk_no t (fun h => by rw [h.2 K h1] at h2; cases h2)
      have := rparse_long t ht K (by omega) h3 (fun _ => h2) w
      rw [if_neg (by omega), decide_eq_false (by omega), zrw_eq] at this
      unfold pL
      rw [ho]
      exact this
  · have ho : pOk t = false := pOk_no t (fun h => ht h.1)
    have := rparse_short t ht w
    rw [zrw_eq] at this
    unfold pL
    rw [ho]
    exact this
theorem parse_all (t : List (BitVec 8)) (w : World) :
    Calls Tryd.prog 7 #[.string (strB t)] w fun e w' => e = .returned (.tuple #[.agg ((pL t).map u8v).toArray, .bool (pOk t)]) ∧ Below w.heap.size w w' := by
  by_cases ht : t.length = 64
  · rcases first_bad t 64 with h | ⟨K, h1, h2, h3⟩
    · have ho : pOk t = true := pOk_yes t ⟨ht, h⟩
      have := parse_good t ht h w
      unfold pL
      rw [ho]
      exact this
    · have ho : pOk t = false := pOk_no t (fun h => by rw [h.2 K h1] at h2; cases h2)
      have hb : digOk (at8 t (2 * (K / 2))) = false ∨ digOk (at8 t (2 * (K / 2) + 1)) = false := by
        rcases Nat.mod_two_eq_zero_or_one K with e | e
        · left; rw [show 2 * (K / 2) = K by omega]; exact h2
        · right; rw [show 2 * (K / 2) + 1 = K by omega]; exact h2
      have := parse_bad2 t ht (K / 2) (by omega) (fun j hj => h3 j (by omega)) hb w
      rw [zrw_eq] at this
      unfold pL
      rw [ho]
      exact this
  · have ho : pOk t = false := pOk_no t (fun h => ht h.1)
    have := parse_bad1 t ht w
    rw [zrw_eq] at this
    unfold pL
    rw [ho]
    exact this
end Go.Proofs.YtgaphplndpdhaaaDoor
