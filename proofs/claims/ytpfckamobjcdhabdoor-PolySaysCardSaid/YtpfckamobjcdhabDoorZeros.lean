/- Contracts: the document's own by, Zeros, CrcJoin. No condition but the int64's bound. -/
import Derived.Test.YtpfckamobjcdhabDoorRcrc
import Derived.Test.YtpfckamobjcdhabDoorOrs
import Derived.Deep.DeepCutAuto
import Derived.Laws.Rows
namespace Go.Proofs.YtpfckamobjcdhabDoor
open Go.RowKit
theorem load_yield {P : Program} {S : World → Prop} {o : Oper} {ev : Operand → Value} (T : TypeId) (x : Operand) (ho : o.op = .load T x) (g : Nat) (hx : ev x = .pointer (some ⟨g, 0, none⟩)) (t : TypeId) (l : List Value)
    (hS : ∀ w, S w → Has w g t l) (d : TypeDesc) (hu : P.underlying T = some d) (hd : (match d with | .struct _ | .array _ _ => true | _ => false) = true) (hi : (P.info? T).map (·.size) = some l.toArray.size) :
    ∀ w', S w' → (execOp ev o).run P w' = .ok (.value (.agg l.toArray)) w' := by
  intro w' h
  unfold execOp
  simp only [ho, hx, Instr.loadAt, Instr.sureAddr, Sem.run_bind, Sem.run_pure, Result.andThen_ok, run_loadVar_row w' g t T l.toArray (0, 0) d (hS w' h) hu hd hi]
/-- A row of thirty-two words of which the first k are f's, the others zero. -/
def rowF (f : Nat → BitVec 32) (k : Nat) : List Value := (List.range 32).map fun i => if i < k then u32v (f i) else .int .u32 0
theorem rowF_length (f : Nat → BitVec 32) (k : Nat) : (rowF f k).length = 32 := by simp [rowF]
theorem rowF_get (f : Nat → BitVec 32) (k i : Nat) (h : i < k) (h2 : i < 32) : (rowF f k)[i]? = some (.int .u32 (N (f i))) := by
  unfold rowF
  rw [List.getElem?_map, List.getElem?_range h2]
  simp [h, u32v]
theorem rowF_get0 (f : Nat → BitVec 32) (k i : Nat) (h : k ≤ i) (h2 : i < 32) : (rowF f k)[i]? = some (.int .u32 0) := by
  unfold rowF
  rw [List.getElem?_map, List.getElem?_range h2]
  simp [show ¬ i < k by omega]
theorem rowF_set (f : Nat → BitVec 32) (k : Nat) (h : k < 32) : (rowF f k).set k (.int .u32 (N (f k))) = rowF f (k + 1) := by
  apply List.ext_getElem?
  intro i
  rw [List.getElem?_set, rowF_length]
  by_cases hi : i < 32
  · by_cases hk : k = i
    · subst hk
      rw [if_pos rfl, if_pos h, rowF_get f (k + 1) k (by omega) h]
    · rw [if_neg hk]
      by_cases hlt : i < k
      · rw [rowF_get f k i hlt hi, rowF_get f (k + 1) i (by omega) hi]
      · rw [rowF_get0 f k i (by omega) hi, rowF_get0 f (k + 1) i (by omega) hi]
  · rw [List.getElem?_eq_none (by rw [rowF_length]; omega), List.getElem?_eq_none (by rw [rowF_length]; omega)]
    rw [if_neg (by omega)]
theorem rowF_one (f : Nat → BitVec 32) (k : Nat) : (rowF f k).toArray.all (·.oneCell') = true :=
  Array.all_eq_true_iff_forall_mem.2 (fun v hv => by
    have : v ∈ rowF f k := by simpa using hv
    obtain ⟨i, _, rfl⟩ := List.mem_map.1 this
    show (if i < k then u32v (f i) else Value.int .u32 0).oneCell' = true
    split <;> rfl)
def z32 : List Value := List.replicate 32 (.int .u32 0)
theorem z32_rowF (f : Nat → BitVec 32) : z32 = rowF f 0 := by
  apply List.ext_getElem?
  intro i
  by_cases hi : i < 32
  · rw [rowF_get0 f 0 i (by omega) hi]; unfold z32; rw [List.getElem?_replicate, if_pos hi]
  · rw [List.getElem?_eq_none (by simp [z32]; omega), List.getElem?_eq_none (by rw [rowF_length]; omega)]
theorem z32_run (w : World) : (zeroValue 99).run Tryd.prog w = .ok (.agg z32.toArray) w := by kernel_rfl
theorem rowF_size (f : Nat → BitVec 32) (k : Nat) : (Tryd.prog.info? 99).map (·.size) = some (rowF f k).toArray.size := by
  rw [show (rowF f k).toArray.size = 32 by simp [rowF_length]]; kernel_rfl
theorem N_shlv (x : BitVec 32) (yk : IntKind) (k : Nat) (hk : k ≤ 32) : Op.shift .shl .u32 (N x) yk (k : Int) = pure (.int .u32 (N (x <<< k))) := by
  rw [shift_shl_any _ _ _ _ (by omega)]
  have : min ((k : Int).toNat) IntKind.u32.bits = k := by show min _ 32 = k; omega
  rw [this, N_shl]
theorem one_shl (k : Nat) (hk : k < 32) (yk : IntKind) : Op.shift .shl .u32 1 yk (k : Int) = pure (.int .u32 (N (bit32 k))) := N_shlv 1#32 yk k (by omega)
theorem pow_bit (k : Nat) : (2 : Int) ^ k % 4294967296 = N (bit32 k) := by
  have := N_shl 1#32 k
  rw [IntKind.wrap_u32', show N 1#32 = 1 from rfl, Int.one_mul] at this
  exact this
theorem shr_bit (c : BitVec 32) (k : Nat) : (c >>> k).getLsbD 0 = c.getLsbD k := by rw [BitVec.getLsbD_ushiftRight, Nat.add_zero]
set_option maxHeartbeats 1000000 in
set_option maxRecDepth 100000 in
theorem by_any (f : Nat → BitVec 32) (c : BitVec 32) (w : World) :
    Calls Tryd.prog 45 #[.agg (rowF f 32).toArray, .int .u32 (N c)] w fun e w' => e = .returned (.int .u32 (N (pick f c 32))) ∧ Below w.heap.size w w' := by
  obtain ⟨cs, hcs⟩ : ∃ cs, cs = rowF f 32 := ⟨_, rfl⟩
  have HC := Lib.hid hcs
  rw [← hcs]
  clear hcs
  go_enter Tryd.func45, Tryd.ntmps45
  go_wp2_with fail
  have h2 : Has (w.alloc (.cells cs.toArray 99)) w.heap.size 99 (rowF f 32) := by rw [← HC.out]; exact Has.made' _ _ _ _ rfl
  have hB : Below w.heap.size w (w.alloc (.cells cs.toArray 99)) := (Below.refl _ _).alloc (Nat.le_refl _) _
  generalize w.alloc (.cells cs.toArray 99) = w1 at *
  have H2 := Lib.hid h2
  have HB := Lib.hid hB
  clear h2 hB
  go_loop [5, 6] (fun vr vi => ∃ k : Nat, k ≤ 32 ∧ vi = .int .i64 k ∧ vr = .int .u32 (N (pick f c k))) (fun _ vi => 32 - (intOf vi).toNat)
  case atStart => exact ⟨0, by omega, rfl, rfl⟩
  case round =>
    obtain ⟨k, hk, rfl, rfl⟩ := hrel
    by_cases hlt : k < 32
    · have hcell := H2.out.cellv (rowF_get f 32 k hlt hlt)
      have hp : pick f c (k + 1) = pick f c k ^^^ (if c.getLsbD k then f k else 0#32) := rfl
      generalize f k = m at *
      generalize pick f c k = r at *
      have h1 := N_and1 (c >>> k)
      rw [shr_bit, ← N_shr] at h1
      have hx := N_xor r m
      have k1 : (k : Int) < 32 := by omega
      cases hc : c.getLsbD k
      · rw [hc] at h1 hp
        simp only [Bool.false_eq_true, if_false, BitVec.xor_zero] at h1 hp
        have HP := Lib.hid hp
        clear hp hc
        go_wp2_with fail
        go_round
        case rel => exact ⟨k + 1, by omega, by go_num, by rw [HP.out]⟩
        case measure => simp [intOf]; omega
      · rw [hc] at h1 hp
        simp only [if_true] at h1 hp
        have HP := Lib.hid hp
        clear hp hc
        go_wp2_with fail
        go_round
        case rel => exact ⟨k + 1, by omega, by go_num, by rw [HP.out]⟩
        case measure => simp [intOf]; omega
    · have : k = 32 := by omega
      subst this
      clear hlt
      go_wp2_with fail
      go_ret
      exact ⟨rfl, HB.out⟩

theorem zeros_odd (s k : Nat) (c : BitVec 32) (h : k % 2 = 1) : nxs ((s + s) * (k / 2)) (nxs s c) = nxs (s * k) c := by
  rw [← nxs_add]
  have := pow_odd 0 s k h
  rw [Nat.zero_add, Nat.zero_add] at this
  rw [this]
theorem zeros_even (s k : Nat) (c : BitVec 32) (h : k % 2 = 0) : nxs ((s + s) * (k / 2)) c = nxs (s * k) c := by
  have := pow_even 0 s k h
  rw [Nat.zero_add, Nat.zero_add] at this
  rw [this]
def sq (s : Nat) (i : Nat) : BitVec 32 := nxs s (bit32 i)
theorem pick_sq (s : Nat) (c : BitVec 32) : pick (sq s) c 32 = nxs s c := pick_all (nxs_lin s) (fun _ _ => rfl) c
theorem sq_sq (s i : Nat) : nxs s (sq s i) = sq (s + s) i := by unfold sq; rw [nxs_add]
theorem rem2 (k : Nat) : (k : Int) % 2 = ((k % 2 : Nat) : Int) := by omega
set_option maxHeartbeats 4000000 in
set_option maxRecDepth 100000 in
theorem zeros_any (c : BitVec 32) (n : Nat) (hn : (n : Int) ≤ 9223372036854775807) (w : World) :
    Calls Tryd.prog 39 #[.int .u32 (N c), .int .i64 (n : Int)] w fun e w' => e = .returned (.int .u32 (N (nxs (8 * n) c))) ∧ Below w.heap.size w w' := by
  have hz := z32_run
  obtain ⟨R, hR⟩ : ∃ R, R = nxs (8 * n) c := ⟨_, rfl⟩
  rw [← hR]
  have HR : Hid (nxs (8 * n) c = R) := Lib.hid hR.symm
  clear hR
  go_enter Tryd.func39, Tryd.ntmps39
  go_wp2_with fail
  have h2 : Has (w.alloc (.cells z32.toArray 99)) w.heap.size 99 (rowF (sq 8) 0) := by rw [← z32_rowF]; exact Has.made' _ _ _ _ rfl
  have hB : Below w.heap.size w (w.alloc (.cells z32.toArray 99)) := (Below.refl _ _).alloc (Nat.le_refl _) _
  generalize w.alloc (.cells z32.toArray 99) = w1 at *
  go_loopw [6, 7, 8, 9] (fun vi _ _ _ wr => ∃ k : Nat, k ≤ 32 ∧ vi = .int .i64 k ∧ Has wr w.heap.size 99 (rowF (sq 8) k) ∧ Below w.heap.size w wr) (fun vi _ _ _ _ => 32 - (intOf vi).toNat)
  case atStart => exact ⟨0, by omega, rfl, h2, hB⟩
  case round =>
    clear h2 hB
    rename_i wr
    obtain ⟨k, hk, rfl, h2, hB⟩ := hrel
    by_cases hlt : k < 32
    · have hpw := pow_bit k
      have ck := h2.cellv (rowF_get0 (sq 8) k k (Nat.le_refl _) hlt)
      have fk := h2.free k
      have H2 := Lib.hid h2
      have HB := Lib.hid hB
      have k1 : (k : Int) < 32 := by omega
      obtain ⟨t, ht⟩ : ∃ t, t = bit32 k := ⟨_, rfl⟩
      rw [← ht] at hpw
      have HP := Lib.hid hpw
      have HT : Hid (nxs 8 t = sq 8 k) := Lib.hid (by rw [ht]; rfl)
      have HS := Lib.hid (rowF_set (sq 8) k hlt)
      clear h2 hB ht hpw
      go_wp2_with fail
      go_loop [7, 8, 9] (fun vx vj _ => ∃ j : Nat, j ≤ 8 ∧ vj = .int .i64 j ∧ vx = .int .u32 (N (nxs j t))) (fun _ vj _ => 8 - (intOf vj).toNat)
      case atStart => exact ⟨0, by omega, rfl, by rw [HP.out]; rfl⟩
      case round =>
        obtain ⟨j, hj, rfl, rfl⟩ := hrel
        by_cases hl8 : j < 8
        · have hn := nxs_succ j t
          generalize nxs j t = y at *
          have h1 := N_and1 y
          have h2 := N_sr1 y
          have h3 := N_dvs (y >>> 1)
          cases hc : y.getLsbD 0
          · rw [hc] at h1
            simp only [Bool.false_eq_true, if_false] at h1
            have HN := Lib.hid (hn.trans (nx_false hc))
            clear hn hc
            go_wp2_with fail
            go_round
            case rel => exact ⟨j + 1, by omega, by go_num, by rw [HN.out]⟩
            case measure => simp [intOf]; omega
          · rw [hc] at h1
            simp only [if_true] at h1
            have HN := Lib.hid (hn.trans (nx_true hc))
            clear hn hc
            go_wp2_with fail
            go_round
            case rel => exact ⟨j + 1, by omega, by go_num, by rw [HN.out]⟩
            case measure => simp [intOf]; omega
        · have : j = 8 := by omega
          subst this
          clear hl8
          rw [HT.out]
          go_wp2_with fail
          go_roundw
          case rel =>
            refine ⟨k + 1, by omega, by go_num, ?_, HB.out.setCell (Nat.le_refl _) _⟩
            rw [← HS.out]
            exact H2.out.put k _
          case measure => simp [intOf]; omega
    · have : k = 32 := by omega
      subst this
      clear hlt
      have HB := Lib.hid hB
      have H2 := Lib.hid h2
      clear h2 hB
      rw [show ((32 : Nat) : Int) = 32 from rfl]
      go_wp2_with fail
      go_loopw [0, 1, 10, 11] (fun vc vn _ _ wr => ∃ (j s : Nat) (C : BitVec 32), (j : Int) ≤ 9223372036854775807 ∧ vn = .int .i64 j ∧ vc = .int .u32 (N C) ∧ nxs (s * j) C = R ∧ Has wr w.heap.size 99 (rowF (sq s) 32) ∧ Below w.heap.size w wr) (fun _ vn _ _ _ => (intOf vn).toNat)
      case atStart => exact ⟨n, 8, c, hn, rfl, rfl, HR.out, H2.out, HB.out⟩
      case round =>
        clear H2 HB HR hn
        rename_i wr2
        obtain ⟨j, s, C, hj, rfl, rfl, hT, h2, hB⟩ := hrel
        by_cases h0 : j = 0
        · subst h0
          have HT : Hid (C = R) := Lib.hid (by rw [← hT, Nat.mul_zero]; rfl)
          have HB := Lib.hid hB
          clear hT h2 hB
          go_wp2_with fail
          go_ret
          exact ⟨by rw [← HT.out]; rfl, HB.out⟩
        · have hpos : (0 : Int) < (j : Int) := by omega
          have BY : Hid (∀ (w' : World) (D : BitVec 32), Calls Tryd.prog 45 #[.agg (rowF (sq s) 32).toArray, .int .u32 (N D)] w' fun e w'' => e = .returned (.int .u32 (N (nxs s D))) ∧ Below w'.heap.size w' w'') := Lib.hid (fun w' D => by
            have := by_any (sq s) D w'
            rw [pick_sq] at this
            exact this)
          have HQ := Lib.hid (sq_sq s)
          have HT := Lib.hid hT
          have H2 := Lib.hid h2
          have HB := Lib.hid hB
          have hg := h2.lt
          clear hT h2 hB
          go_upto_if 40 with (fail)
          go_cut [0] (fun vc wc => ∃ D : BitVec 32, vc = .int .u32 (N D) ∧ nxs ((s + s) * (j / 2)) D = R ∧ Has wc w.heap.size 99 (rowF (sq s) 32) ∧ Below w.heap.size w wc)
          case first =>
            by_cases hodd : j % 2 = 1
            · have k2 : (j : Int) % 2 = 1 := by omega
              have HO := Lib.hid ((zeros_odd s j C hodd).trans HT.out)
              clear hodd
              go_wp2_with (first
                | (refine wpList_load_row rfl 99 _ rfl w.heap.size rfl 99 _ (0, 0) _ H2.out Tryd.underlying99 rfl (rowF_size _ _) ?_)
                | ((with_reducible refine (BY.out _ _).mono ?_); rintro e w5 ⟨rfl, hb5⟩; have H5 := Lib.hid (H2.out.keep hb5 H2.out.lt); have HB5 := Lib.hid (HB.out.trans (hb5.mono HB.out.size)); clear hb5))
              go_meet
              exact ⟨_, rfl, HO.out, H5.out, HB5.out⟩
            · have k2 : (j : Int) % 2 = 0 := by omega
              have HO := Lib.hid ((zeros_even s j C (by omega)).trans HT.out)
              clear hodd
              go_wp2_with fail
              go_meet
              exact ⟨C, rfl, HO.out, H2.out, HB.out⟩
          case rest =>
            obtain ⟨D, rfl, hT, h2, hB⟩ := hcut
            replace HT := Lib.hid hT
            replace H2 := Lib.hid h2
            replace HB := Lib.hid hB
            have hg := h2.lt
            clear hT h2 hB
            go_wp2_with fail
            have hQ : Has (wc.alloc (.cells z32.toArray 99)) wc.heap.size 99 (rowF (sq (s + s)) 0) := by rw [← z32_rowF]; exact Has.made' _ _ _ _ rfl
            have hM : Has (wc.alloc (.cells z32.toArray 99)) w.heap.size 99 (rowF (sq s) 32) := H2.out.alloc _
            have hB : Below w.heap.size w (wc.alloc (.cells z32.toArray 99)) := HB.out.alloc HB.out.size _
            generalize wc.alloc (.cells z32.toArray 99) = wd at *
            generalize wc.heap.size = g2 at *
            clear H2 HB
            go_loopw [11] (fun vi wr => ∃ k : Nat, k ≤ 32 ∧ vi = .int .i64 k ∧ Has wr g2 99 (rowF (sq (s + s)) k) ∧ Has wr w.heap.size 99 (rowF (sq s) 32) ∧ Below w.heap.size w wr) (fun vi _ => 32 - (intOf vi).toNat)
            case atStart => exact ⟨0, by omega, rfl, hQ, hM, hB⟩
            case round =>
              clear hQ hM hB
              rename_i wv
              obtain ⟨k, hk, rfl, hQ, hM, hB⟩ := hrel
              have HQQ := Lib.hid hQ
              have HM := Lib.hid hM
              have HB := Lib.hid hB
              by_cases hlt : k < 32
              · have k1 : (k : Int) < 32 := by omega
                have hg2 := hQ.lt
                have HSET := Lib.hid (rowF_set (sq (s + s)) k hlt)
                have HQK := Lib.hid (HQ.out k)
                clear hQ hM hB
                go_wp2_with fail
                refine wp_region_ors (fun w' => Has w' w.heap.size 99 (rowF (sq s) 32)) [(0, true), (2, true), (3, true), (1, true), (4, true), (5, false), (6, true), (7, false)] (by kernel_rfl) (by kernel_rfl) (by kernel_rfl) HM.out.drew ?_
                simp only [pickOrs, List.getElem?_cons_zero, List.getElem?_cons_succ]
                refine ors_pure (v := ?_) (by rfl) ?_ ?_
                rotate_left
                · intro w' hw; go_simp; try with_reducible rfl
                try simp only [Act.put, List.setIfInBounds_toArray, List.set_cons_zero, List.set_cons_succ]
                refine ors_pure (v := ?_) (by rfl) ?_ ?_
                rotate_left
                · intro w' hw; go_simp; try with_reducible rfl
                try simp only [Act.put, List.setIfInBounds_toArray, List.set_cons_zero, List.set_cons_succ]
                refine ors_pure (v := ?_) (by rfl) ?_ ?_
                rotate_left
                · intro w' hw; go_simp; try with_reducible rfl
                try simp only [Act.put, List.setIfInBounds_toArray, List.set_cons_zero, List.set_cons_succ]
                refine ors_pure (by rfl) (load_yield 99 (.tmp 5) (by rfl) _ (by rfl) 99 (rowF (sq s) 32) (fun _ h => h) _ Tryd.underlying99 rfl (rowF_size _ _)) ?_
                try simp only [Act.put, List.setIfInBounds_toArray, List.set_cons_zero, List.set_cons_succ]
                refine ors_pure (v := ?_) (by rfl) ?_ ?_
                rotate_left
                · intro w' hw; have hc := Has.cellv hw (rowF_get (sq s) 32 k hlt hlt); go_simp; try with_reducible rfl
                try simp only [Act.put, List.setIfInBounds_toArray, List.set_cons_zero, List.set_cons_succ]
                refine ors_step (by rfl) (fun K hK => ?_)
                go_wp2_with fail
                refine (BY.out _ _).mono ?_
                rintro e w5 ⟨rfl, hb5⟩
                rw [HQK.out]
                have H5 := Lib.hid (HM.out.drew.keep hb5 HM.out.drew.lt)
                have HQ5 := Lib.hid (HQQ.out.drew.keep hb5 HQQ.out.drew.lt)
                have HB5 := Lib.hid (HB.out.drew.trans (hb5.mono HB.out.drew.size))
                clear hb5 HM HQQ HB
                go_wp2_with fail
                refine ⟨H5.out, ?_⟩
                try simp only [Act.put, List.setIfInBounds_toArray, List.set_cons_zero, List.set_cons_succ]
                refine ors_pure (v := ?_) (by rfl) ?_ ?_
                rotate_left
                · intro w' hw; go_simp; try with_reducible rfl
                try simp only [Act.put, List.setIfInBounds_toArray, List.set_cons_zero, List.set_cons_succ]
                have ck := HQ5.out.cellv (rowF_get0 (sq (s + s)) k k (Nat.le_refl _) hlt)
                have fk := HQ5.out.free k
                refine ors_step (by rfl) (fun K hK => ?_)
                go_wp2_with fail
                refine ⟨H5.out.off (by simp; omega) _, ?_⟩
                refine ors_nil ?_
                go_wp2_with fail
                go_roundw
                case rel =>
                  refine ⟨k + 1, by omega, by go_num, ?_, H5.out.off (by simp; omega) _, HB5.out.setCell (by simp; omega) _⟩
                  rw [← HSET.out]
                  exact HQ5.out.put k _
                case measure => simp [intOf]; omega
              · have : k = 32 := by omega
                subst this
                clear hlt
                rw [show ((32 : Nat) : Int) = 32 from rfl]
                go_wp2_with (first
                  | (refine wpList_load_row rfl 99 _ rfl g2 rfl 99 _ (0, 0) _ hQ Tryd.underlying99 rfl (rowF_size _ _) ?_)
                  | (refine wpList_store_row rfl 99 _ _ rfl w.heap.size _ rfl rfl 99 _ hM (rowF_size _ _) (by simp [rowF_length]) (rowF_one _ _) ?_))
                have e1 : ((j / 2 : Nat) : Int) = (j : Int) / 2 := by omega
                go_roundw
                case rel => exact ⟨j / 2, s + s, D, by omega, by rw [e1], rfl, HT.out, hM.rowl _, below_row hB (Nat.le_refl _) _⟩
                case measure => simp [intOf]; omega
set_option maxHeartbeats 400000 in
theorem crcjoin_any (a b : BitVec 32) (n : Int) (h1 : n ≤ 9223372036854775807) (w : World) :
    Calls Tryd.prog 23 #[.int .u32 (N a), .int .u32 (N b), .int .i64 n] w fun e w' => e = .returned (.int .u32 (N (joinN a b n))) ∧ Below w.heap.size w w' := by
  have hx := N_xor (nxs (8 * n.toNat) a) b
  by_cases hneg : n < 0
  · have HZ := Lib.hid (zeros_any a 0 (by omega))
    have HE : Hid (n.toNat = 0) := Lib.hid (by omega)
    rw [HE.out] at hx
    go_enter Tryd.func23, Tryd.ntmps23
    go_wp2_with fail
    refine (HZ.out _).mono ?_
    rintro e w1 ⟨rfl, hb⟩
    go_wp2_with fail
    go_ret
    exact ⟨by unfold joinN; rw [HE.out]; rfl, hb⟩
  · obtain ⟨m, rfl⟩ := Int.eq_ofNat_of_zero_le (show 0 ≤ n by omega)
    have HZ := Lib.hid (zeros_any a m h1)
    rw [Int.toNat_natCast] at hx
    go_enter Tryd.func23, Tryd.ntmps23
    go_wp2_with fail
    refine (HZ.out _).mono ?_
    rintro e w1 ⟨rfl, hb⟩
    go_wp2_with fail
    go_ret
    exact ⟨rfl, hb⟩
end Go.Proofs.YtpfckamobjcdhabDoor
