/- Contract: the document's own Of: SHA-256. Condition: fewer than 2^40 bytes; a nil slice has no capacity. -/
import Derived.Test.YtepeloenijlnhaaDoorRblock
import Derived.Test.YtepeloenijlnhaaDoorGp8
namespace Go.Proofs.YtepeloenijlnhaaDoor
open Go.RowKit
theorem empty_own (w : World) (base : Nat) (hb : base ≤ w.heap.size) : (w.alloc (.cells #[] 5)).ownsRow base 5 1 (.slice (some ⟨w.heap.size, 0, none⟩) 0 0) 0 [] :=
  World.ownsRow_made w #[] 0 hb (by unfold maxLen; omega) (by simp)
theorem lit_sees (w : World) (x : BitVec 8) (v : Value) (hv : v = u8v x) : Sees (w.alloc (.cells #[v] 5)) (w.heap.size + 1) (some ⟨w.heap.size, 0, none⟩) ([x].map u8v) := by
  subst hv
  exact Sees.of_has (Has.made' w 5 #[u8v x] _ rfl) (Nat.lt_succ_self _)
/-- What the call has made: the result's block, the eight words, the text that grows. -/
def Grows (w : World) (h : List Value) (v : Value) (p : List (BitVec 8)) (wr : World) : Prop :=
  Below w.heap.size w wr ∧ Has wr w.heap.size 52 (brow 32 []) ∧ Has wr (w.heap.size + 1) 102 h ∧ wr.ownsRow (w.heap.size + 2) 5 1 v p.length (p.map u8v)
theorem Grows.size {w wr : World} {h : List Value} {v : Value} {p : List (BitVec 8)} (g : Grows w h v p wr) : w.heap.size + 2 ≤ wr.heap.size := by have := g.2.2.1.lt; omega
theorem Grows.next {w wr w2 : World} {h : List Value} {v v2 : Value} {p q : List (BitVec 8)} (g : Grows w h v p wr) (o : Obj) (hb : Below (w.heap.size + 2) (wr.alloc o) w2) (ho : w2.ownsRow (w.heap.size + 2) 5 1 v2 q.length (q.map u8v)) : Grows w h v2 q w2 := by
  obtain ⟨h0, h1, h2, _⟩ := g
  have hz := h2.lt
  exact ⟨(h0.alloc h0.size o).trans (hb.mono (by omega)), (h1.alloc o).keep hb (by omega), (h2.alloc o).keep hb (by omega), ho⟩
theorem wpStill_val {P : Program} {ops : Array Oper} {w : World} {Q : Act → Prop} {o : Oper} {rest : List Oper} {a : Act} {v : Value} (hw : Region.wanted o (yielded ops a.tmps) = true) (hy : (execOp a.eval o).run P w = .ok (.value v) w)
    (h : wpStill P ops w Q rest (a.put o.dst v)) : wpStill P ops w Q (o :: rest) a := by
  show if _ then _ else _
  rw [if_pos hw]
  unfold Oper.still
  rw [hy, Oper.stillUpon_value]
  exact h
theorem load_at {P : Program} {o : Oper} {ev : Operand → Value} (T : TypeId) (x : Operand) (ho : o.op = .load T x) (g : Nat) (hx : ev x = .pointer (some ⟨g, 0, none⟩)) (t : TypeId) (l : List Value) (w : World)
    (hS : Has w g t l) (d : TypeDesc) (hu : P.underlying T = some d) (hd : (match d with | .struct _ | .array _ _ => true | _ => false) = true) (hi : (P.info? T).map (·.size) = some l.toArray.size) :
    (execOp ev o).run P w = .ok (.value (.agg l.toArray)) w := by
  unfold execOp
  simp only [ho, hx, Instr.loadAt, Instr.sureAddr, Sem.run_bind, Sem.run_pure, Result.andThen_ok, run_loadVar_row w g t T l.toArray (0, 0) d hS hu hd hi]
theorem cut_64 (a : Option Addr) (n cap f : Nat) (h1 : f + 64 ≤ cap) (w : World) :
    (Instr.slice 83 (.slice a n cap) (some (.int .i64 (f : Int))) (some (.int .i64 ((f : Int) + 64))) none).run Tryd.prog w = .ok (.slice (cutQ a cap f) 64 (cap - f)) w := by
  obtain ⟨i0, hi, _, hz1, _⟩ := info_parts u8_info
  have he : Tryd.prog.elem 83 = 5 := by kernel_rfl
  have e1 : ((f : Int) + 64).toNat = f + 64 := by omega
  rw [run_slice_lh (ht := by rw [he]; exact Tryd.underlying83) (h0 := by omega) (h1 := by omega) (h2 := by omega), he, e1]
  simp [sizeOf, typeInfo, hi, hz1, sliced, cutQ]
theorem lenByte_val (n i : Nat) : (n : Int) * 8 / 2 ^ (56 - 8 * i) % 256 = B (lenByte (8 * n) i) := by
  unfold B lenByte
  rw [BitVec.toNat_ofNat, Nat.mul_comm 8 n]
  simp
section
attribute [local go_sem] N_and N_or N_xor N_add
set_option maxHeartbeats 4000000 in
set_option maxRecDepth 100000 in
theorem rof_any (x : List (BitVec 8)) (q : Option Addr) (c : Nat) (w : World) (hs : Sees w w.heap.size q (x.map u8v)) (hq : q = none → c = 0) (hl : x.length < 1099511627776) :
    Calls Tryd.prog 58 #[.slice q x.length c] w fun e w' => e = .returned (.agg ((sha x).map u8v).toArray) ∧ Below w.heap.size w w' := by
  have HS := Lib.hid hs
  have HQ := Lib.hid hq
  have hz32 : (brow 32 []).toArray.size = 32 := rfl
  clear hs hq hz32
  go_enter Tryd.func58, Tryd.ntmps58
  have HV0 : Hid (start.vals.toArray.all (·.oneCell') = true) := Lib.hid (u32v_one _)
  go_upto_region 2 with (refine wpList_store_row rfl 102 _ _ rfl (w.heap.size + 1) start.vals.toArray rfl (by kernel_rfl) 102 _ (Has.made1 _ _ _ _ _ rfl) (by kernel_rfl) (by kernel_rfl) HV0.out ?_)
  simp only [Act.put]
  generalize hw0 : World.setRow _ _ _ = w0
  have h1 : Has w0 w.heap.size 52 (brow 32 []) := by
    subst hw0; rw [brow_nil]; exact ((Has.made' _ _ _ _ rfl).alloc _).offRow (by omega) _
  have h2 : Has w0 (w.heap.size + 1) 102 start.vals := by
    subst hw0; exact (Has.made1 _ _ _ _ _ rfl).rowl _
  have hB : Below w.heap.size w w0 := by
    subst hw0; exact below_row (((Below.refl _ _).alloc (Nat.le_refl _) _).alloc (by simp) _) (by omega) _
  have hz0 : w0.heap.size = w.heap.size + 2 := by subst hw0; simp
  clear hw0
  have hBe : Below w0.heap.size w0 (w0.alloc (.cells #[] 5)) := (Below.refl _ _).alloc (Nat.le_refl _) _
  have HSx := Lib.hid ((HS.out.keep hB).keep (hBe.mono (by omega)))
  have HO := Lib.hid (empty_own w0 (w.heap.size + 2) (by omega))
  have HBe : Hid (Below (w.heap.size + 2) w0 (w0.alloc (.cells #[] 5))) := Lib.hid (hBe.mono (by omega))
  have H1 := Lib.hid h1
  have H2 := Lib.hid h2
  have HB := Lib.hid hB
  have HZ0 := Lib.hid hz0
  clear h1 h2 hB hBe hz0
  go_wp2_with (first
    | (at_builtin
       refine wpList_append_sees rfl (.tmp 11) (.tmp 12) rfl (w.heap.size + 2) _ 0 [] rfl HO.out q x c w.heap.size rfl HQ.out HSx.out (by omega) (by have := HZ0.out; simp; omega) ?_
       intro v1 w1 g1 g2
       have H3 := Lib.hid g1
       have HB1 := Lib.hid (HBe.out.trans g2)
       have HL1 := Lib.hid (lit_sees w1 128 (.int .u8 128) rfl)
       have HB1' : Hid (Below (w.heap.size + 2) w0 (w1.alloc (.cells #[.int .u8 128] 5))) := Lib.hid (HB1.out.alloc (by have := HZ0.out; have := HB1.out.size; omega) _)
       clear g1 g2)
    | (at_builtin
       refine wpList_append_sees rfl (.tmp 13) (.tmp 14) rfl (w.heap.size + 2) v1 (0 + x.length) ([] ++ x.map u8v) rfl (H3.out.alloc _) (some ⟨w1.heap.size, 0, none⟩) [128] 1 (w1.heap.size + 1) rfl (fun h => by cases h) HL1.out (by simp; omega) (by have := HZ0.out; have := HB1'.out.size; omega) ?_
       intro v2 w2 g1 g2
       have H4 := Lib.hid g1
       have HB2 := Lib.hid (HB1'.out.trans g2)
       clear g1 g2))
  have hG : Grows w start.vals v2 (padZ x 0) w2 := by
    have h := H4.out
    refine ⟨HB.out.trans (HB2.out.mono (by omega)), H1.out.keep HB2.out (by omega), H2.out.keep HB2.out (by omega), ?_⟩
    rw [padZ_length]
    have e : (padZ x 0).map u8v = [] ++ x.map u8v ++ [(128 : BitVec 8)].map u8v := by unfold padZ; simp
    rw [e]
    have e2 : x.length + 1 + 0 = 0 + x.length + [(128 : BitVec 8)].length := by simp
    rw [e2]
    exact h
  have HG := Lib.hid hG
  clear hG H4 HB2 HB1' HL1 HB1 H3 HSx HO HBe H1 H2 HB
  go_loopw [4] (fun v wr => ∃ j : Nat, j ≤ zeros x.length ∧ Grows w start.vals v (padZ x j) wr) (fun v _ => match v with | .slice _ n _ => (120 - n % 64) % 64 | _ => 0)
  case atStart => exact ⟨0, by omega, HG.out⟩
  case round =>
    clear HG
    obtain ⟨j, hj, hG⟩ := hrel
    obtain ⟨q1, c1, rfl, _, _, _⟩ := Bs.own hG.2.2.2
    have hpl := padZ_length x j
    have hzl := zeros_le x.length
    by_cases hlt : j < zeros x.length
    · have hne := zeros_not x.length j hlt
      have hps := padZ_succ x j
      generalize padZ x j = P at *
      have k1 : (((P.length : Int) % 64) != 56) = true := by simp; omega
      have HPS := Lib.hid hps
      have HG := Lib.hid hG
      have HS1 := Lib.hid (lit_sees wr 0 (.int .u8 0) rfl)
      have hsz := hG.size
      have HNE : Hid (P.length % 64 ≠ 56) := Lib.hid (by rw [hpl]; exact hne)
      have hPb : P.length < 1099511627906 := by omega
      clear hps hG hne hpl
      go_wp2_with (at_builtin; refine wpList_append_sees rfl _ _ rfl (w.heap.size + 2) _ _ _ rfl (HG.out.2.2.2.alloc _) (some ⟨wr.heap.size, 0, none⟩) [0] 1 (wr.heap.size + 1) rfl (fun h => by cases h) HS1.out (by simp; omega) (by simp; omega) ?_; intro v3 w3 g1 g2; have H5 := Lib.hid g1; have H6 := Lib.hid g2; clear g1 g2)
      have hG3 : Grows w start.vals v3 (P ++ [0]) w3 := HG.out.next _ H6.out (by have := H5.out; rw [List.length_append, List.map_append]; exact this)
      obtain ⟨q3, c3, rfl, _, _, _⟩ := Bs.own hG3.2.2.2
      go_roundw
      case rel => exact ⟨j + 1, by omega, by rw [HPS.out]; exact hG3⟩
      case measure => have h := HNE.out; simp only [List.length_append, List.length_cons, List.length_nil]; omega
    · have hjz : j = zeros x.length := by omega
      have hat := zeros_at x.length
      rw [hjz, ← whole_zero] at hG
      rw [hjz] at hpl
      rw [hjz]
      rw [← whole_zero] at hpl ⊢
      generalize hP : whole x 0 = P at *
      have k1 : (((P.length : Int) % 64) != 56) = false := by simp; omega
      have HP := Lib.hid hP
      have HG := Lib.hid hG
      have k2 : IntKind.u64.wrap (x.length : Int) = (x.length : Int) := IntWalk.u64_in _ (by omega)
      have hPb : P.length < 1099511627906 := by omega
      clear hP hG hat hlt hj hjz hpl
      obtain ⟨wo, rfl⟩ : ∃ wo : World, wo = wr := ⟨_, rfl⟩
      go_wp2_with fail
      go_loopw [4, 6] (fun v vi wr => ∃ i : Nat, i ≤ 8 ∧ vi = .int .i64 i ∧ Grows w start.vals v (whole x i) wr) (fun _ vi _ => 8 - (intOf vi).toNat)
      case atStart => exact ⟨0, by omega, rfl, by rw [HP.out]; exact HG.out⟩
      case round =>
        clear HG HP hPb
        obtain ⟨i, hi, rfl, hG⟩ := hrel
        obtain ⟨q1, c1, rfl, hc1, hq1, hs1⟩ := Bs.own hG.2.2.2
        by_cases hlt : i < 8
        · have hws := whole_succ x i hlt
          have hwb : (whole x i).length ≤ 1099511627926 := by
            unfold whole; rw [List.length_append, padZ_length, List.length_take]; have := zeros_le x.length; omega
          generalize whole x i = P at *
          have HWS := Lib.hid hws
          have HG := Lib.hid hG
          have hsz := hG.size
          have i0 : (i : Int) < 8 := by omega
          have i1 : 0 ≤ 56 - 8 * (i : Int) := by omega
          have i2 : IntKind.u64.wrap (56 - 8 * (i : Int)) = 56 - 8 * (i : Int) := IntWalk.u64_in _ (by omega)
          have k6 := lenByte_val x.length i
          generalize lenByte (8 * x.length) i = y at *
          have HSy := Lib.hid (lit_sees wr y (.int .u8 (B y)) rfl)
          clear hws hG hlt hc1 hq1 hs1
          go_wp2_with (at_builtin; refine wpList_append_sees rfl _ _ rfl (w.heap.size + 2) _ _ _ rfl (HG.out.2.2.2.alloc _) (some ⟨wr.heap.size, 0, none⟩) [y] 1 (wr.heap.size + 1) rfl (fun h => by cases h) HSy.out (by simp; omega) (by simp; omega) ?_; intro v3 w3 g1 g2; have H5 := Lib.hid g1; have H6 := Lib.hid g2; clear g1 g2)
          have hG3 : Grows w start.vals v3 (P ++ [y]) w3 := HG.out.next _ H6.out (by have := H5.out; rw [List.length_append, List.map_append]; exact this)
          go_roundw
          case rel => exact ⟨i + 1, by omega, by go_num, by rw [HWS.out]; exact hG3⟩
          case measure => simp [intOf]; omega
        · have hi8 : i = 8 := by omega
          have k3 : ¬ (i : Int) < 8 := by omega
          rw [hi8] at hG hc1 hs1 ⊢
          obtain ⟨Nb, hN1, hN2⟩ := whole_blocks x
          have hsha := whole_sha x Nb hN2
          have hwb : (whole x 8).length ≤ 1099511627926 := by
            rw [whole_length]; have := zeros_le x.length; omega
          generalize whole x 8 = M at *
          have hN0 : 0 < Nb := by have := zeros_le x.length; rw [hN2]; unfold padSize; split <;> omega
          obtain ⟨a, rfl, hab, hcell⟩ := hs1.get (by simp; omega)
          obtain ⟨hB, b1, b2, ho⟩ := hG
          have hab2 : w.heap.size + 2 ≤ a.block := own_base ho a.block rfl
          have hgb : w.heap.size + 1 < wr.heap.size := b2.lt
          have HN1 := Lib.hid hN1
          have HC := Lib.hid hcell
          have H2 : Hid (Has wr (w.heap.size + 1) 102 (feed 0 M start).vals) := Lib.hid b2
          have H1 := Lib.hid b1
          have HB := Lib.hid hB
          have hS := Lib.hid hsha
          have hMN : (M.length : Int) = 64 * (Nb : Int) := by omega
          have hcN : 64 * Nb ≤ c1 := by omega
          clear ho hMN hN1 hN2 hsha hcell hB b1 b2 hlt hi hi8 hc1 hq1 hs1
          rw [HN1.out]
          obtain ⟨wo2, rfl⟩ : ∃ wo2 : World, wo2 = wr := ⟨_, rfl⟩
          have HBo : Hid (Below wo2.heap.size wo2 wo2) := Lib.hid (Below.refl _ _)
          go_wp2_with fail
          go_loopw [7] (fun vi wr => ∃ n m : Nat, n ≤ Nb ∧ m = 64 * n ∧ vi = .int .i64 m ∧ Below w.heap.size w wr ∧ Has wr w.heap.size 52 (brow 32 []) ∧ Has wr (w.heap.size + 1) 102 (feed n M start).vals ∧ (∀ j u, (M.map u8v)[j]? = some u → wr.cell? (a.add j) = some u) ∧ wo2.heap.size ≤ wr.heap.size) (fun vi _ => 64 * Nb - (intOf vi).toNat)
          case atStart => exact ⟨0, 0, by omega, rfl, rfl, HB.out, H1.out, H2.out, HC.out, Nat.le_refl _⟩
          case round =>
            clear H1 H2 HB HC
            obtain ⟨n, m, hn, hm, rfl, hB, b1, b2, hcell, hsz⟩ := hrel
            by_cases hlt : n < Nb
            · have hcut := cut_64 (some a) (64 * Nb) c1 m (by omega)
              have hcq : cutQ (some a) c1 m = some (a.add m) := by unfold cutQ; rw [if_neg (by omega)]; rfl
              rw [hcq] at hcut
              have hbl : ((M.drop m).take 64).length = 64 := by rw [List.length_take, List.length_drop, HN1.out]; omega
              have hfe := feed_end n M start
              rw [← hm] at hfe
              have hA : ∀ w3, Below wr.heap.size wr w3 → ∀ j u, ((((M.drop m).take 64).map u8v)[j]? = some u) → w3.cell? ((a.add m).add j) = some u := fun w3 hb j u hu => by
                rw [add_add]
                refine (hb.cell (by rw [add_block]; omega)).trans (hcell _ u ?_)
                rw [List.getElem?_map, List.getElem?_take] at hu
                split at hu
                · rw [List.getElem?_drop] at hu; rw [List.getElem?_map]; exact hu
                · simp at hu
              have HBK : Hid (∀ w3, Below wr.heap.size wr w3 → Calls Tryd.prog 73 #[.agg (feed n M start).vals.toArray, .slice (some (a.add m)) 64 (c1 - m)] w3 fun e w' => e = .returned (.agg (feed (n + 1) M start).vals.toArray) ∧ Below w3.heap.size w3 w') := Lib.hid (fun w3 hb => by
                rw [hfe]
                exact rblock_any (feed n M start) _ hbl (a.add m) (c1 - m) w3 (hA w3 hb) (by rw [add_block]; have := hb.size; omega))
              have HL1 : Hid ((feed n M start).vals.length = 8) := Lib.hid rfl
              have HL2 : Hid ((feed (n + 1) M start).vals.length = 8) := Lib.hid rfl
              have HV2 : Hid ((feed (n + 1) M start).vals.toArray.all (·.oneCell') = true) := Lib.hid (u32v_one _)
              obtain ⟨F2, hF2⟩ : ∃ F2, F2 = (feed (n + 1) M start).vals := ⟨_, rfl⟩
              rw [← hF2] at HBK HL2 HV2
              have HF2 := Lib.hid hF2
              generalize (feed n M start).vals = F1 at *
              have HB := Lib.hid hB
              have H1 := Lib.hid b1
              have H2 := Lib.hid b2
              have HC := Lib.hid hcell
              have km : (m : Int) < 64 * (Nb : Int) := by omega
              have km2 : (m : Int) < 1099511627926 := by have := HN1.out; omega
              have HM := Lib.hid hm
              clear hB b1 b2 hcell hA hbl hfe hF2 hcq hm
              go_wp2_with fail
              refine wp_region_still_tail 6 (by kernel_rfl) (by kernel_rfl) ?_
              simp only [List.take_succ_cons, List.take_zero, List.drop_succ_cons, List.drop_zero]
              refine wpStill_val (by rfl) (load_at 102 (.tmp 3) (by rfl) (w.heap.size + 1) (by rfl) 102 F1 _ H2.out _ Tryd.underlying102 rfl (by rw [List.size_toArray, HL1.out]; kernel_rfl)) ?_
              try simp only [Act.put, List.setIfInBounds_toArray, List.set_cons_zero, List.set_cons_succ]
              have hw64 : IntKind.i64.wrap ((m : Int) + 64) = (m : Int) + 64 := IntWalk.i64_in _ (by omega)
              iterate 5 still_step
              refine wpStill_nil ?_
              clear hw64
              change wpList _ _ _ _ _ wr.drew
              have hBd : Below wr.heap.size wr wr.drew := (Below.refl _ _).drew
              have HB2 := Lib.hid (HB.out.drew)
              have HC1 := Lib.hid (HBK.out _ hBd)
              replace H1 : Hid (Has wr.drew w.heap.size 52 (brow 32 [])) := Lib.hid H1.out.drew
              replace H2 : Hid (Has wr.drew (w.heap.size + 1) 102 F1) := Lib.hid H2.out.drew
              replace HC : Hid (∀ j u, (M.map u8v)[j]? = some u → wr.drew.cell? (a.add j) = some u) := Lib.hid HC.out
              have hszd : wo2.heap.size ≤ wr.drew.heap.size := hsz
              clear HBK HB hBd hcut
              generalize wr.drew = wq at *
              go_wp2_with fail
              refine HC1.out.mono ?_
              rintro e w4 ⟨rfl, hb4⟩
              replace H1 := Lib.hid (H1.out.keep hb4 H1.out.lt)
              replace H2 := Lib.hid (H2.out.keep hb4 H2.out.lt)
              replace HC : Hid (∀ j u, (M.map u8v)[j]? = some u → w4.cell? (a.add j) = some u) := Lib.hid (fun j u hu => (hb4.cell (by rw [add_block]; omega)).trans (HC.out j u hu))
              replace HB2 := Lib.hid (HB2.out.trans (hb4.mono HB2.out.size))
              have hz4 : wo2.heap.size ≤ w4.heap.size := by have := hb4.size; omega
              clear hb4 HC1
              have hr := H2.out
              go_wp2_with (refine wpList_store_row rfl 102 _ _ rfl (w.heap.size + 1) F2.toArray rfl rfl 102 _ hr (by rw [List.size_toArray, HL2.out]; kernel_rfl) (by rw [List.size_toArray, List.size_toArray, HL1.out, HL2.out]) HV2.out ?_)
              go_roundw
              case rel =>
                refine ⟨n + 1, m + 64, by omega, by rw [HM.out]; omega, by go_num, below_row HB2.out (by omega) _, H1.out.offRow (by omega) _, ?_, fun j u hu => ?_, by simp; omega⟩
                · rw [← HF2.out]; exact H2.out.rowl F2
                · exact (cell_setRow_other _ _ _ _ (by rw [add_block]; omega)).trans (HC.out j u hu)
              case measure => have := HM.out; simp [intOf]; omega
            · have hnN : n = Nb := by omega
              have km : ¬ (m : Int) < 64 * (Nb : Int) := by omega
              rw [hnN, hS.out] at b2
              have HB := Lib.hid hB
              have H1 := Lib.hid b1
              have H2 := Lib.hid b2
              clear hB b1 b2 hcell hlt hm hn hnN
              have hgb2 : w.heap.size + 1 < wr.heap.size := by omega
              obtain ⟨S, hS2⟩ : ∃ S, S = shaState x := ⟨_, rfl⟩
              rw [← hS2] at H2
              have HSh : Hid (sha x = tell S) := Lib.hid (by rw [hS2]; rfl)
              clear hS2
              obtain ⟨wo3, rfl⟩ : ∃ wo3 : World, wo3 = wr := ⟨_, rfl⟩
              go_wp2_with fail
              generalize hw5 : wo3.alloc _ = w5
              have c1' : Has w5 w.heap.size 52 (brow 32 []) := by subst hw5; exact H1.out.alloc _
              have c2' : Has w5 (w.heap.size + 1) 102 S.vals := by subst hw5; exact H2.out.alloc _
              have c3' : Has w5 wo3.heap.size 52 (brow 32 ((tell S).take 0)) := by subst hw5; rw [List.take_zero, brow_nil]; exact Has.made' _ _ _ _ rfl
              have c4' : Below w.heap.size w w5 := by subst hw5; exact HB.out.alloc HB.out.size _
              have C := Lib.hid (And.intro c1' (And.intro c2' (And.intro c3' c4')))
              clear hw5 c1' c2' c3' c4' HB H1 H2
              generalize wo3.heap.size = g8 at *
              go_loopw [9] (fun vi wr => ∃ n : Nat, n ≤ 32 ∧ vi = .int .i64 n ∧ Has wr w.heap.size 52 (brow 32 []) ∧ Has wr (w.heap.size + 1) 102 S.vals ∧ Has wr g8 52 (brow 32 ((tell S).take n)) ∧ Below w.heap.size w wr) (fun vi _ => 32 - (intOf vi).toNat)
              case atStart => exact ⟨0, by omega, rfl, C.out⟩
              case round =>
                clear C
                obtain ⟨n, hn, rfl, b1, b2, b3, hB⟩ := hrel
                have htl := tell_length S
                by_cases hlt : n < 32
                · have hta := tell_at S n hlt
                  have htk : (tell S).take (n + 1) = (tell S).take n ++ [at8 (tell S) n] := by
                    rw [List.take_succ_eq_append_getElem (by omega)]
                    simp [at8, List.getD_eq_getElem?_getD, List.getElem?_eq_getElem (show n < (tell S).length by omega)]
                  have hlk : ((tell S).take n).length = n := by rw [List.length_take]; omega
                  have cx := b2.cellv (at32_of S.list (n / 4) (show n / 4 < 8 by omega))
                  have cz := b3.cellv (brow_get0 32 ((tell S).take n) n (by omega) hlt)
                  have cf := b3.free n
                  have hput := brow_put 32 ((tell S).take n) (at8 (tell S) n) n hlk hlt
                  rw [← htk] at hput
                  have k6 : N (at32 S.list (n / 4)) / 2 ^ (24 - 8 * (n % 4)) % 256 = B (at8 (tell S) n) := by
                    rw [N_shr, hta]
                    have := B_of_N (at32 S.list (n / 4) >>> (24 - 8 * (n % 4)))
                    rw [IntKind.wrap_u8'] at this
                    exact this
                  have i4 : (n : Int) / 4 = ((n / 4 : Nat) : Int) := by omega
                  have i5 : (n : Int) % 4 = ((n % 4 : Nat) : Int) := by omega
                  have i6 : ((n / 4 : Nat) : Int) < 8 := by omega
                  have i7 : n % 4 < 4 := by omega
                  have HP := Lib.hid hput
                  have HB := Lib.hid hB
                  have H1 := Lib.hid b1
                  have H2 := Lib.hid b2
                  have H3 := Lib.hid b3
                  generalize at8 (tell S) n = y at *
                  generalize at32 S.list (n / 4) = xx at *
                  generalize n / 4 = d at *
                  generalize n % 4 = r at *
                  have i8 : 0 ≤ 24 - 8 * (r : Int) := by omega
                  have i9 : IntKind.u64.wrap (24 - 8 * (r : Int)) = 24 - 8 * (r : Int) := IntWalk.u64_in _ (by omega)
                  have i10 : (n : Int) < 32 := by omega
                  have hx0 := N_nonneg xx
                  clear hput hta htk hlk b1 b2 b3 hB
                  go_wp2_with fail
                  go_roundw
                  case rel =>
                    refine ⟨n + 1, by omega, by go_num, H1.out.off (by simp; omega) _, H2.out.off (by simp; omega) _, ?_, HB.out.setCell (by simp; omega) _⟩
                    have := H3.out.put n (u8v y)
                    rw [HP.out] at this
                    exact this
                  case measure => simp [intOf]; omega
                · have hn32 : n = 32 := by omega
                  have k4 : ¬ (n : Int) < 32 := by omega
                  rw [hn32, List.take_of_length_le (by omega), brow_full 32 _ htl] at b3
                  have HL1 : Hid (((tell S).map u8v).length = 32) := Lib.hid (by rw [List.length_map, htl])
                  have HV1 : Hid (((tell S).map u8v).toArray.all (·.oneCell') = true) := Lib.hid (u8v_one _)
                  have HL0 : Hid ((brow 32 []).length = 32) := Lib.hid rfl
                  obtain ⟨ts, hts⟩ : ∃ ts, ts = (tell S).map u8v := ⟨_, rfl⟩
                  rw [← hts] at b3 HL1 HV1
                  have HTS : Hid (ts = (sha x).map u8v) := Lib.hid (by rw [hts, HSh.out])
                  have HB := Lib.hid hB
                  clear hB hts htl hn hlt hn32 HSh
                  have i32 : (Tryd.prog.info? 52).map (·.size) = some 32 := by kernel_rfl
                  go_wp2_with (first
                    | (refine wpList_load_row rfl 52 _ rfl g8 rfl 52 ts.toArray (0, 0) _ b3 Tryd.underlying52 rfl (by rw [List.size_toArray, HL1.out]; exact i32) ?_)
                    | (refine wpList_store_row rfl 52 _ _ rfl w.heap.size ts.toArray rfl rfl 52 _ b1 (by rw [List.size_toArray, HL1.out]; exact i32) (by rw [List.size_toArray, List.size_toArray, HL1.out, HL0.out]) HV1.out ?_))
                  refine bodyPost_ret (v := .agg ts.toArray) ?_ rfl ⟨by rw [HTS.out], below_row HB.out (Nat.le_refl _) _⟩
                  refine results_cell_row rfl _ _ w.heap.size 52 _ (0, 0) _ rfl ?_ Tryd.underlying52 rfl (by rw [List.size_toArray, HL1.out]; exact i32)
                  exact b1.rowl _
end
end Go.Proofs.YtepeloenijlnhaaDoor
