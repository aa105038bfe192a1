/- The law DiskKnown returns true. No condition. -/
import Derived.Test.YtefamkckoikeoaaDoorBase5
import Derived.Test.YtefamkckoikeoaaDoorCards
import Derived.Test.YtefamkckoikeoaaDoorTie
import Derived.ShutString
import Derived.ChangeOld
import Derived.SevenTiedAt
/- The law DiskAll returns true, whatever the changes. Conditions: strings of at most 2^61 bytes, bytes at most 2^47. -/
namespace Go.Proofs.YtefamkckoikeoaaDoor
open Go.RowKit
theorem tear_all (c : Chg) : tearC c (-1) = c := by unfold tearC; rw [if_neg (by omega)]
theorem keptF_all {α : Type} (K : List Int) : ∀ (A : List α) (i : Nat), (∀ j, j < A.length → ((i + j : Nat) : Int) ∈ K) → keptF K i A = A
  | [], _, _ => rfl
  | a :: A, i, h => by
    show (if (i : Int) ∈ K then a :: keptF K (i + 1) A else keptF K (i + 1) A) = a :: A
    rw [if_pos (by have := h 0 (by simp); simpa using this), keptF_all K A (i + 1) fun j hj => by have := h (j + 1) (by simpa using hj); rwa [show i + 1 + j = i + (j + 1) by omega]]
def rangeI (n : Nat) : List Int := (List.range n).map fun (k : Nat) => (k : Int)
theorem rangeI_add (n : Nat) : rangeI (n + 1) = rangeI n ++ [(n : Int)] := by unfold rangeI; rw [List.range_succ, List.map_append]; rfl
theorem rangeI_len (n : Nat) : (rangeI n).length = n := by unfold rangeI; simp
theorem wp_addI {ops : Array Oper} {rest : List Oper} {o : Oper} {a : Act} {Q : Exit → Act → World → Prop}
    (hgd : o.guard = none) (sl x : Operand) (ho : o.op = .call { callee := .builtin .append, args := #[sl, x], argTypes := #[51, 51] }) {w : World} {base : Nat} {v : Value} {K : List Int} (R : w.ownsRow base 3 1 v K.length (K.map (Value.int .i64))) (hbase : base ≤ w.heap.size)
    (hs : a.eval sl = v) (g : Nat) (e : Int) (hx : a.eval x = .slice (some ⟨g, 0, none⟩) 1 1) (hc : Has w g 3 [.int .i64 e]) (hn : K.length ≤ 1000000)
    (h : ∀ v' w', w'.ownsRow base 3 1 v' (K ++ [e]).length ((K ++ [e]).map (Value.int .i64)) → Below base w w' → wpList Tryd.prog ops Q rest (a.put o.dst v') w') : wpList Tryd.prog ops Q (o :: rest) a w := by
  obtain ⟨i0, hi, hz0, hz1, hz2⟩ := info_parts int_info
  refine wpList_append_own _ hgd sl x 51 ho base 3 i0 _ 1 8 Tryd.underlying51 hi hz0 hz1 hz2 rfl (by decide) v K.length (K.map (Value.int .i64)) hs R ⟨g, 0, none⟩ 1 1 [.int .i64 e] hx rfl ?_ ?_ (by unfold maxLen; omega) (by omega) hbase
    fun v' w' ho' hg' _ => h v' w' (by rw [List.map_append, List.length_append]; exact ho') ((Below.refl base w).grown hg' hbase (fun k hk => own_baseN R k hk))
  · intro j u hj
    have e2 : (Addr.add ⟨g, 0, none⟩ j) = ⟨g, j, none⟩ := by unfold Addr.add; split <;> simp_all
    rw [e2]; exact hc.cellv hj
  · intro u hu
    rw [List.mem_singleton.1 hu]; rfl
theorem same_ok {w : World} {v u : Value} {X : List Ent} (h : RdT w v X) (h' : RdT w u X) (hg : goodP X = true) : Calls Tryd.prog 15 #[.agg #[v], .agg #[u]] w fun e w2 => e = .returned (.bool true) ∧ Below w.heap.size w w2 := by
  obtain ⟨C, q, c, rfl, _, h2, _, h4, h5, h6, h7, _, h8, h9, h10⟩ := rdt_parts h hg
  obtain ⟨D, p, d, rfl, _, k2, _, k4, k5, k6, k7, _, k8, k9, k10⟩ := rdt_parts h' hg
  have := tsame_any C D q p c d (by omega) (by omega) h2 k2 (by omega) (by omega) (fun e he => by have := h10 e he; omega) (fun e he => by have := k10 e he; omega) w h4 k4 h5 k5
  have e1 : sameT C D = true := by
    unfold sameT
    rw [h6, k6, sim_like (h7.trans k7.symm)]; rfl
  rwa [e1] at this
theorem tree_own {w : World} {g n : Nat} {B : Option Nat} {S : DS} {k : Nat} {l : List Value} (hD : DiskAt w g n B S) (h : Has w k 25 l) : ¬ Own g B k := fun hk => by
  obtain ⟨_, _, _, vn, vl, vw, vk, hh, _, _, e, ⟨L, _, h8, _, _⟩, _⟩ := hD
  rcases hk with rfl | hk
  · exact (hh.apart h (by decide)) rfl
  · have hb : vw.ownBlock = some k := e.symm.trans hk.symm
    rcases h8.2 with ⟨rfl, _⟩ | ⟨g', cap, cur, rfl, _, hg', _⟩
    · cases hb
    · have hk' : g' = k := by simpa [Value.ownBlock] using hb
      subst hk'
      have h2 : Has w g' 47 cur.toList := by unfold Has; simpa using hg'
      exact (h2.apart h (by decide)) rfl
/-- A disk that holds what the law's loop asks. -/
def AllI (w : World) (g : Nat) (i : Nat) (B : Option Nat) (S : DS) : Prop := DiskAt w g (g + 1) B S ∧ Sm S ∧ S.waits.length ≤ i ∧ S.lasts = [] ∧ S.now = foldC [] S.waits (-1) ∧ Lit S ∧ 0 ≤ S.count ∧ S.count ≤ i
theorem all_do {S : DS} {c : Chg} {i : Nat} (h1 : S.waits.length ≤ i) (h2 : S.lasts = []) (h3 : S.now = foldC [] S.waits (-1)) (h4 : Lit S) (h5 : 0 ≤ S.count) (h6 : S.count ≤ i) :
    (doS S c).1.waits.length ≤ i + 1 ∧ (doS S c).1.lasts = [] ∧ (doS S c).1.now = foldC [] (doS S c).1.waits (-1) ∧ Lit (doS S c).1 ∧ 0 ≤ (doS S c).1.count ∧ (doS S c).1.count ≤ ((i + 1 : Nat) : Int) := by
  refine ⟨?_, ?_, ?_, do_lit2 h4 c, ?_⟩ <;> rcases do_lit h4 c with ⟨h, _⟩ | ⟨_, _, h⟩ <;> rw [h]
  · omega
  · simp only [List.length_append, List.length_singleton]; omega
  · exact h2
  · exact h2
  · exact h3
  · show (chE S.now c).1 = foldC [] (S.waits ++ [c]) (-1)
    rw [foldC_add, tear_all, ← h3]
  · exact ⟨h5, by omega⟩
  · show 0 ≤ S.count + 1 ∧ S.count + 1 ≤ ((i + 1 : Nat) : Int)
    omega
noncomputable def chkAA : Array Oper := regOf Tryd.f7.body 21
set_option maxRecDepth 100000 in
theorem chkAA_ok : otcB [.inl (0, true), .inl (2, true), .inl (1, false), .inl (3, false), .inl (4, true), .inl (5, true), .inl (7, true), .inl (6, false), .inl (8, false), .inl (9, true), .inl (10, true)] chkAA = true := by kernel_rfl
set_option maxHeartbeats 16000000 in
set_option maxRecDepth 100000 in
theorem all9_any (L : List ActE) (q : Option Addr) (c : Nat) (hz : ∀ e ∈ L, okC e) (w : World) (hs : Sees w w.heap.size q (rowA L)) (hB : ∀ e ∈ L, Bs w e.2.2.2.1 e.2.2.2.2) :
    Calls Tryd.prog 7 #[.slice q L.length c] w fun e w' => e = .returned (.bool true) ∧ Below w.heap.size w w' := by
  have HS := Lib.hid hs
  have HBL := Lib.hid hB
  have HZ := Lib.hid hz
  clear hs hB hz
  go_enter Tryd.func7, Tryd.ntmps7
  go_wp2_with fail
  refine (awake9_any _).mono ?_
  rintro e w0 ⟨rfl, hb⟩
  have HB := Lib.hid hb
  clear hb
  by_cases hl : 30 < L.length
  · have kl : (30 : Int) < (L.length : Int) := by omega
    go_wp2_with fail
    go_ret
    exact ⟨rfl, HB.out⟩
  have kl : ¬ (30 : Int) < (L.length : Int) := by omega
  go_wp2_with fail
  refine (new_any [] none 0 16384 (Nat.le_refl _) (by simp) (fun _ => rfl) (by simp [bytesT]) (fun _ h => by cases h) w0 (Sees.nil _ _ _) (fun _ h => by cases h)).mono ?_
  rintro e w1 ⟨hn, hb⟩
  have HLE := Lib.hid HB.out.size
  replace HB := Lib.hid (HB.out.trans (hb.mono HB.out.size))
  obtain ⟨g, rfl, hg, hd⟩ := newP_ok hn (by decide) (by decide)
  have HG : Hid (w.heap.size ≤ g) := Lib.hid (Nat.le_trans HLE.out hg)
  have HI : Hid (AllI w1 g 0 none (newS [] 16384)) := Lib.hid ⟨hd, new_sm _ _, Nat.le_refl _, rfl, rfl, ⟨rfl, rfl⟩, Int.le_refl _, Int.le_refl _⟩
  clear hn hb hg hd
  generalize newS [] 16384 = S0 at *
  go_wp2_with fail
  go_loopw [6] (fun vi wr => ∃ (i : Nat) (B : Option Nat) (S : DS), i ≤ L.length ∧ vi = .int .i64 i ∧ AllI wr g i B S ∧ Below w.heap.size w wr) (fun vi _ => L.length - (intOf vi).toNat)
  case atStart => exact ⟨0, _, _, by omega, rfl, HI.out, HB.out⟩
  case round =>
    rename World => wr
    clear HB HI
    obtain ⟨i, B, S, hi, rfl, hI, hB⟩ := hrel
    have HB := Lib.hid hB
    obtain ⟨hD, hP⟩ := hI
    have HD := Lib.hid hD
    have HP := Lib.hid hP
    clear hB hD hP
    by_cases hlt : i < L.length
    · have kk : (i : Int) < (L.length : Int) := by omega
      obtain ⟨a, rfl, ha, hc⟩ := HS.out.act hlt
      obtain ⟨c0, c1, c2, c3⟩ := hc wr HB.out
      obtain ⟨qb, cb, hv, hcb, hqb, hsb⟩ := (HBL.out L[i] (List.getElem_mem hlt)).keep HB.out
      have hok := HZ.out L[i] (List.getElem_mem hlt)
      obtain ⟨e, he⟩ : ∃ e, L[i] = e := ⟨_, rfl⟩
      simp only [he] at c0 c1 c2 c3 hv hcb hsb hok
      obtain ⟨op, p, t, bv, bb⟩ := e
      have hv' : bv = .slice qb (List.length bb) cb := hv
      subst hv'
      simp only [] at c0 c1 c2 c3 hcb hsb hok
      have HOK : Hid (p.size < 2305843009213693952 ∧ t.size < 2305843009213693952 ∧ bb.length ≤ 140737488355328) := Lib.hid hok
      have hCNT : -9223372036854775808 ≤ S.count ∧ S.count < 9223372036854775807 := by have := HP.out.2.2.2.2.2; omega
      have HDO := Lib.hid (do_any g (g + 1) B S op p t bb qb cb HOK.out.1 HOK.out.2.1 HOK.out.2.2 hcb hqb HP.out.1 (by have := HP.out.2.1; omega) hCNT wr HD.out hsb)
      clear hc ha hv hcb hqb hsb hok he hCNT
      by_cases hx : 2100 < bb.length
      · have k1 : (2100 : Int) < (bb.length : Int) := by omega
        go_wp2_with fail
        go_ret
        exact ⟨rfl, HB.out⟩
      have k1 : ¬ (2100 : Int) < (bb.length : Int) := by omega
      go_wp2_with fail
      clear c0 c1 c2 c3
      refine HDO.out.mono ?_
      rintro e w3 ⟨rfl, ha⟩
      replace HB := Lib.hid (HB.out.trans (After.below HD.out ha HG.out))
      obtain ⟨_, hD2, _, _⟩ := ha
      replace HD := Lib.hid hD2
      clear hD2
      clear HDO
      have HN : Hid (Sm (doS S (op, p, t, bb)).1 ∧ _) := Lib.hid (And.intro (do_sm HP.out.1 (op, p, t, bb) HOK.out (by have := HP.out.2.1; omega)) (all_do (c := (op, p, t, bb)) HP.out.2.1 HP.out.2.2.1 HP.out.2.2.2.1 HP.out.2.2.2.2.1 HP.out.2.2.2.2.2.1 HP.out.2.2.2.2.2.2))
      have kwi : IntKind.i64.wrap ((i : Int) + 1) = (i : Int) + 1 := by rw [IntWalk.i64_in _ (by omega)]
      generalize doS S (op, p, t, bb) = R at *
      obtain ⟨S2, E⟩ := R
      simp only [] at HD HN
      go_wp2_with fail
      go_roundw
      case rel => exact ⟨i + 1, _, _, by omega, by go_num, ⟨HD.out, HN.out⟩, HB.out⟩
      case measure => simp [intOf]; omega
    · have hil : i = L.length := by omega
      subst hil
      have k0 : ¬ (L.length : Int) < (L.length : Int) := by omega
      clear hlt
      go_wp2_with fail
      refine (now_any _ _ _ _ _ HD.out).mono ?_
      rintro e w4 ⟨⟨v, rfl, hR⟩, hb⟩
      replace HB := Lib.hid (HB.out.trans (hb.mono HB.out.size))
      replace HD := Lib.hid (HD.out.keep hb)
      obtain ⟨qx, nx, cx, rfl⟩ := hR.slice
      have hb4 := (Below.refl w4.heap.size w4).alloc (Nat.le_refl _) (.cells #[.slice qx nx cx] 25)
      have HT : Hid (Has (w4.alloc (.cells #[.slice qx nx cx] 25)) w4.heap.size 25 [.slice qx nx cx]) := Lib.hid (Has.made w4 _ _)
      have HR := Lib.hid (hR.keep hb4)
      replace HB := Lib.hid (HB.out.trans (hb4.mono HB.out.size))
      replace HD := Lib.hid (HD.out.keep hb4)
      clear hb hb4 hR
      go_wp2_with fail
      generalize w4.alloc (.cells #[.slice qx nx cx] 25) = wk at *
      generalize w4.heap.size = GT at *
      have HNIL := Lib.hid (World.ownsRow_nil wk wk.heap.size 3 1)
      have HWL : Hid (S.waits.length ≤ 30) := Lib.hid (by have := HP.out.2.1; omega)
      obtain ⟨m, hm⟩ : ∃ m, m = S.waits.length := ⟨_, rfl⟩
      have HM := Lib.hid hm
      clear hm
      go_loopw [5, 8] (fun v vi wq => ∃ j : Nat, j ≤ m ∧ vi = .int .i64 j ∧ wq.ownsRow wk.heap.size 3 1 v (rangeI j).length ((rangeI j).map (Value.int .i64)) ∧ Below wk.heap.size wk wq) (fun _ vi _ => m - (intOf vi).toNat)
      case atStart => exact ⟨0, by omega, rfl, HNIL.out, Below.refl _ _⟩
      case round =>
        rename World => wq
        obtain ⟨j, hj, rfl, hrow, hBq⟩ := hrel
        have HROW := Lib.hid hrow
        have HBQ := Lib.hid hBq
        clear hrow hBq HNIL
        go_wp2_with fail
        refine (waits_any g (g + 1) B S HP.out.1 wq (HD.out.keep HBQ.out)).mono ?_
        rintro e w5 ⟨⟨v, rfl, ⟨LW, qw, cw, hLW, rfl, _, _⟩⟩, hb⟩
        have hlw : LW.length = m := by rw [HM.out, ← hLW, List.length_map]
        rw [hlw]
        have hbsz := HBQ.out.size
        replace HBQ := Lib.hid (HBQ.out.trans (hb.mono hbsz))
        replace HROW := Lib.hid (own_belowN HROW.out hb)
        have HSZ5 : Hid (wk.heap.size ≤ w5.heap.size) := Lib.hid HBQ.out.size
        clear hb hLW hlw hbsz
        by_cases hlt2 : j < m
        · have kk2 : (j : Int) < (m : Int) := by omega
          have kwj : IntKind.i64.wrap ((j : Int) + 1) = (j : Int) + 1 := by rw [IntWalk.i64_in _ (by have := HWL.out; have := HM.out; omega)]
          have hb5 := (Below.refl w5.heap.size w5).alloc (Nat.le_refl _) (.cells #[.int .i64 (j : Int)] 3)
          have HB6 : Hid (Below wk.heap.size wk (w5.alloc (.cells #[.int .i64 (j : Int)] 3))) := Lib.hid (HBQ.out.trans (hb5.mono HSZ5.out))
          have HR6 := Lib.hid (own_belowN HROW.out hb5)
          clear hb5
          go_wp2_with (refine wp_addI rfl (.tmp 49) (.tmp 51) rfl (base := wk.heap.size) HR6.out HB6.out.size rfl w5.heap.size (j : Int) rfl (Has.made w5 _ _) (by rw [rangeI_len]; have := HWL.out; have := HM.out; omega) ?_; intro v3 w6 ho3 hb3; have HROW2 := Lib.hid ho3; have HB7 := Lib.hid (HB6.out.trans hb3); clear ho3 hb3 HROW)
          go_roundw
          case rel => exact ⟨j + 1, by omega, by go_num, by rw [rangeI_add]; exact HROW2.out, HB7.out⟩
          case measure => simp [intOf]; omega
        · have hjm : j = m := by omega
          subst hjm
          have k0 : ¬ (j : Int) < (j : Int) := by omega
          replace HD := Lib.hid (HD.out.keep HBQ.out)
          replace HB := Lib.hid (HB.out.trans (HBQ.out.mono HB.out.size))
          replace HT := Lib.hid (HT.out.keep HBQ.out HT.out.lt)
          replace HR := Lib.hid (HR.out.keep HBQ.out)
          have HSK : Hid (∃ qk ck, u5 = .slice qk (rangeI j).length ck ∧ Sees w5 w5.heap.size qk ((rangeI j).map (Value.int .i64))) := Lib.hid (by
            rcases HROW.out.2 with ⟨h1, h0⟩ | ⟨g', cap, cur, h1, hb', hg', h2, h3, h4, h5⟩
            · refine ⟨none, 0, by rw [h1, h0], ?_⟩
              rw [List.eq_nil_of_length_eq_zero h0]; exact Sees.nil _ _ _
            · subst h1
              exact ⟨_, cap, rfl, fun _ => ⟨_, rfl, (Array.getElem?_eq_some_iff.1 hg').1, World.ownsRow.cells HROW.out (g := g') rfl⟩⟩)
          obtain ⟨qk, ck, rfl, hsk⟩ := HSK.out
          have HSE := Lib.hid hsk
          have HFIN : Hid ((crashS S (rangeI j) (-1)).now = S.now ∧ (crashS S (rangeI j) (-1)).lasts = S.now) := Lib.hid (by
            obtain ⟨_, _, h2, h3, h4, _⟩ := HP.out
            have hk : keptF (rangeI j) 0 S.waits = S.waits := keptF_all _ _ _ fun x hx => by
              unfold rangeI
              refine List.mem_map.2 ⟨x, List.mem_range.2 (by have := HM.out; omega), by simp⟩
            unfold crashS
            rw [if_neg (by rw [h4.1]; simp), hk, h2, ← h3]
            exact ⟨rfl, rfl⟩)
          have HGO := Lib.hid HD.out.2.2.1.now
          clear hlt2 HSK hsk HROW HBQ HSZ5
          go_wp2_with fail
          refine (crash_any g (g + 1) B S (rangeI j) qk ck (-1) (by rw [rangeI_len]; have := HWL.out; have := HM.out; omega) HP.out.1 w5 HD.out HSE.out).mono ?_
          rintro e w7 ⟨rfl, ha⟩
          obtain ⟨B2, hD2, hx, hf⟩ := id ha
          have hbx := HD.out.boxy
          have hbB : ∀ k, k < w5.heap.size → Own g B k → Boxy w5 k := fun k _ hk => by
            rcases hk with rfl | hk
            · exact hbx
            · exact (HD.out.boxyB hk.symm).1
          replace HR := Lib.hid (HR.out.fr hf hbB)
          have HTF : Hid (¬ Own g B GT) := Lib.hid (tree_own HD.out HT.out)
          replace HT := Lib.hid (hf.has HTF.out HT.out)
          replace HB := Lib.hid (HB.out.trans (After.below HD.out ha HG.out))
          replace HD := Lib.hid hD2
          clear hD2 hx hf ha hbx hbB HSE HTF
          rw [← HFIN.out.1] at HR HGO
          have HLN : Hid ((crashS S (rangeI j) (-1)).lasts = (crashS S (rangeI j) (-1)).now) := Lib.hid (HFIN.out.2.trans HFIN.out.1.symm)
          generalize crashS S (rangeI j) (-1) = T at *
          go_wp2_with fail
          refine wp_region_os [.inl (0, true), .inl (2, true), .inl (1, false), .inl (3, false), .inl (4, true), .inl (5, true), .inl (7, true), .inl (6, false), .inl (8, false), .inl (9, true), .inl (10, true)] _ chkAA_ok rfl (by kernel_rfl) (by kernel_rfl) (fun w' => Has w' GT 25 [.slice qx nx cx]) HT.out.drew ?_
          have hbd := (Below.refl w7.heap.size w7).drew
          replace HR := Lib.hid (HR.out.keep hbd)
          replace HD := Lib.hid (HD.out.keep hbd)
          replace HB := Lib.hid (HB.out.trans (hbd.mono HB.out.size))
          replace HT := Lib.hid (HT.out.keep hbd HT.out.lt)
          clear hbd
          generalize w7.drew = wd at *
          simp only [pickOt, List.getElem?_cons_zero, List.getElem?_cons_succ]
          refine os_pure (v := ?_) (by kernel_rfl) ?_ ?_
          rotate_left
          · intro w' hv; clear hv; go_simp; try with_reducible rfl
          try simp only [Act.put, List.setIfInBounds_toArray, List.set_cons_zero, List.set_cons_succ]
          refine os_pure (v := ?_) (by kernel_rfl) ?_ ?_
          rotate_left
          · intro w' hv; have cx := hv.cellv (i := 0) (v := .slice qx nx cx) rfl; clear hv; go_simp; try with_reducible rfl
          try simp only [Act.put, List.setIfInBounds_toArray, List.set_cons_zero, List.set_cons_succ]
          refine os_step (by kernel_rfl) (fun K hK => ?_)
          go_wp2_with fail
          refine (now_any _ _ _ _ _ HD.out).mono ?_
          rintro e wn ⟨⟨v, rfl, hR2⟩, hb⟩
          replace HB := Lib.hid (HB.out.trans (hb.mono HB.out.size))
          replace HD := Lib.hid (HD.out.keep hb)
          replace HT := Lib.hid (HT.out.keep hb HT.out.lt)
          replace HR := Lib.hid (HR.out.keep hb)
          have HR2 := Lib.hid hR2
          go_wp2_with fail
          refine ⟨HT.out, ?_⟩
          try clear hK
          clear hb hR2
          rename World => wd
          try simp only [Act.put, List.setIfInBounds_toArray, List.set_cons_zero, List.set_cons_succ]
          refine os_step (by kernel_rfl) (fun K hK => ?_)
          go_wp2_with fail
          refine (same_ok HR2.out HR.out HGO.out).mono ?_
          rintro e wn ⟨rfl, hb⟩
          replace HB := Lib.hid (HB.out.trans (hb.mono HB.out.size))
          replace HD := Lib.hid (HD.out.keep hb)
          replace HT := Lib.hid (HT.out.keep hb HT.out.lt)
          replace HR := Lib.hid (HR.out.keep hb)
          
          go_wp2_with fail
          refine ⟨HT.out, ?_⟩
          try clear hK
          clear hb HR2
          rename World => wd
          try simp only [Act.put, List.setIfInBounds_toArray, List.set_cons_zero, List.set_cons_succ]
          refine os_pure (v := ?_) (by kernel_rfl) ?_ ?_
          rotate_left
          · intro w' hv; clear hv; go_simp; try with_reducible rfl
          try simp only [Act.put, List.setIfInBounds_toArray, List.set_cons_zero, List.set_cons_succ]
          refine os_pure (v := ?_) (by kernel_rfl) ?_ ?_
          rotate_left
          · intro w' hv; clear hv; go_simp; try with_reducible rfl
          try simp only [Act.put, List.setIfInBounds_toArray, List.set_cons_zero, List.set_cons_succ]
          refine os_pure (v := ?_) (by kernel_rfl) ?_ ?_
          rotate_left
          · intro w' hv; have cx := hv.cellv (i := 0) (v := .slice qx nx cx) rfl; clear hv; go_simp; try with_reducible rfl
          try simp only [Act.put, List.setIfInBounds_toArray, List.set_cons_zero, List.set_cons_succ]
          refine os_step (by kernel_rfl) (fun K hK => ?_)
          go_wp2_with fail
          refine (lasts_any _ _ _ _ _ HD.out).mono ?_
          rintro e wn ⟨⟨v, rfl, hR2⟩, hb⟩
          replace HB := Lib.hid (HB.out.trans (hb.mono HB.out.size))
          replace HD := Lib.hid (HD.out.keep hb)
          replace HT := Lib.hid (HT.out.keep hb HT.out.lt)
          replace HR := Lib.hid (HR.out.keep hb)
          rw [HLN.out] at hR2
          have HR2 := Lib.hid hR2
          go_wp2_with fail
          refine ⟨HT.out, ?_⟩
          try clear hK
          clear hb hR2
          rename World => wd
          try simp only [Act.put, List.setIfInBounds_toArray, List.set_cons_zero, List.set_cons_succ]
          refine os_step (by kernel_rfl) (fun K hK => ?_)
          go_wp2_with fail
          refine (same_ok HR2.out HR.out HGO.out).mono ?_
          rintro e wn ⟨rfl, hb⟩
          replace HB := Lib.hid (HB.out.trans (hb.mono HB.out.size))
          replace HD := Lib.hid (HD.out.keep hb)
          replace HT := Lib.hid (HT.out.keep hb HT.out.lt)
          replace HR := Lib.hid (HR.out.keep hb)
          
          go_wp2_with fail
          refine ⟨HT.out, ?_⟩
          try clear hK
          clear hb HR2
          rename World => wd
          try simp only [Act.put, List.setIfInBounds_toArray, List.set_cons_zero, List.set_cons_succ]
          refine os_pure (v := ?_) (by kernel_rfl) ?_ ?_
          rotate_left
          · intro w' hv; clear hv; go_simp; try with_reducible rfl
          try simp only [Act.put, List.setIfInBounds_toArray, List.set_cons_zero, List.set_cons_succ]
          refine os_pure (v := ?_) (by kernel_rfl) ?_ ?_
          rotate_left
          · intro w' hv; clear hv; go_simp; try with_reducible rfl
          try simp only [Act.put, List.setIfInBounds_toArray, List.set_cons_zero, List.set_cons_succ]
          refine os_nil ?_
          go_wp2_with fail
          go_ret
          exact ⟨rfl, HB.out⟩
end Go.Proofs.YtefamkckoikeoaaDoor
/- The law DiskKnown returns true. No condition. -/
namespace Go.Proofs.YtefamkckoikeoaaDoor
open Go.RowKit
def pBk : ByteArray := ⟨#[98]⟩
def pBC : ByteArray := ⟨#[98, 47, 99]⟩
def pZk : ByteArray := ⟨#[122]⟩
def pQk : ByteArray := ⟨#[113]⟩
def pE0 : ByteArray := ⟨#[]⟩
def d6 : List (BitVec 8) := [49#8, 50#8, 51#8, 52#8, 53#8, 54#8]
def d5 : List (BitVec 8) := [49#8, 50#8, 51#8, 52#8, 53#8]
def d3 : List (BitVec 8) := [49#8, 50#8, 51#8]
noncomputable def dk0 : DS := newS [] 5
noncomputable def dk1 : DS := (doS dk0 (7, pE0, pE0, [])).1
noncomputable def dk2 : DS := (doS dk1 (1, pA, pE0, d6)).1
noncomputable def dk3 : DS := (doS dk2 (1, pA, pE0, d5)).1
noncomputable def dk4 : DS := (doS dk3 (2, pBk, pE0, [])).1
noncomputable def dk5 : DS := (doS dk4 (4, pA, pBC, [])).1
noncomputable def dk6 : DS := crashS dk5 [0, 2, 9, -1] 3
noncomputable def dk7 : DS := (doS dk6 (2, pZk, pE0, [])).1
noncomputable def dk8 : DS := (syncS dk7).1
noncomputable def dk9 : DS := { dk8 with off := false }
noncomputable def dk10 : DS := (doS dk9 (2, pBk, pE0, [])).1
noncomputable def dk11 : DS := (syncS dk10).1
noncomputable def dk12 : DS := fuseS dk11 2 [0] (-1)
noncomputable def dk13 : DS := (doS dk12 (4, pA, pBC, [])).1
noncomputable def dk14 : DS := (doS dk13 (3, pQk, pE0, [])).1
theorem dkc0 : dk0.count = 0 := by kernel_rfl
theorem dkw0 : dk0.waits.length = 0 := by kernel_rfl
theorem dkc1 : dk1.count = 0 := by kernel_rfl
theorem dkw1 : dk1.waits.length = 0 := by kernel_rfl
theorem dkc2 : dk2.count = 0 := by kernel_rfl
theorem dkw2 : dk2.waits.length = 0 := by kernel_rfl
theorem dkc3 : dk3.count = 1 := by kernel_rfl
theorem dkw3 : dk3.waits.length = 1 := by kernel_rfl
theorem dkc4 : dk4.count = 2 := by kernel_rfl
theorem dkw4 : dk4.waits.length = 2 := by kernel_rfl
theorem dkc5 : dk5.count = 3 := by kernel_rfl
theorem dkw5 : dk5.waits.length = 3 := by kernel_rfl
theorem dkc6 : dk6.count = 3 := by kernel_rfl
theorem dkw6 : dk6.waits.length = 0 := by kernel_rfl
theorem dkc7 : dk7.count = 3 := by kernel_rfl
theorem dkw7 : dk7.waits.length = 0 := by kernel_rfl
theorem dkc8 : dk8.count = 3 := by kernel_rfl
theorem dkw8 : dk8.waits.length = 0 := by kernel_rfl
theorem dkc9 : dk9.count = 3 := by kernel_rfl
theorem dkw9 : dk9.waits.length = 0 := by kernel_rfl
theorem dkc10 : dk10.count = 4 := by kernel_rfl
theorem dkw10 : dk10.waits.length = 1 := by kernel_rfl
theorem dkc11 : dk11.count = 5 := by kernel_rfl
theorem dkw11 : dk11.waits.length = 0 := by kernel_rfl
theorem dkc12 : dk12.count = 5 := by kernel_rfl
theorem dkw12 : dk12.waits.length = 0 := by kernel_rfl
theorem dkc13 : dk13.count = 6 := by kernel_rfl
theorem dkw13 : dk13.waits.length = 1 := by kernel_rfl
theorem dkc14 : dk14.count = 6 := by kernel_rfl
theorem dkw14 : dk14.waits.length = 0 := by kernel_rfl
theorem dke0 : (doS dk0 (7, pE0, pE0, [])).2 = 1 := by kernel_rfl
theorem dke1 : (doS dk1 (1, pA, pE0, d6)).2 = 9 := by kernel_rfl
theorem dke2 : (doS dk2 (1, pA, pE0, d5)).2 = 0 := by kernel_rfl
theorem dke3 : (doS dk3 (2, pBk, pE0, [])).2 = 0 := by kernel_rfl
theorem dke4 : (doS dk4 (4, pA, pBC, [])).2 = 0 := by kernel_rfl
theorem dke6 : (doS dk6 (2, pZk, pE0, [])).2 = 15 := by kernel_rfl
theorem dke9 : (doS dk9 (2, pBk, pE0, [])).2 = 0 := by kernel_rfl
theorem dke12 : (doS dk12 (4, pA, pBC, [])).2 = 0 := by kernel_rfl
theorem dke13 : (doS dk13 (3, pQk, pE0, [])).2 = 15 := by kernel_rfl
theorem dks7 : (syncS dk7).2 = 15 := by kernel_rfl
theorem dks10 : (syncS dk10).2 = 0 := by kernel_rfl
theorem dk6n : dk6.now = [(pA, false, undef, d3)] := by kernel_rfl
theorem dk14n : dk14.now = [(pBk, true, undef, []), (pBC, false, undef, d3)] := by kernel_rfl
theorem dk14o : dk14.off = true := by kernel_rfl
theorem dm0 : Sm dk0 := new_sm _ _
theorem dm1 : Sm dk1 := do_sm dm0 _ ⟨by decide, by decide, by decide⟩ (by rw [dkw0]; decide)
theorem dm2 : Sm dk2 := do_sm dm1 _ ⟨by decide, by decide, by decide⟩ (by rw [dkw1]; decide)
theorem dm3 : Sm dk3 := do_sm dm2 _ ⟨by decide, by decide, by decide⟩ (by rw [dkw2]; decide)
theorem dm4 : Sm dk4 := do_sm dm3 _ ⟨by decide, by decide, by decide⟩ (by rw [dkw3]; decide)
theorem dm5 : Sm dk5 := do_sm dm4 _ ⟨by decide, by decide, by decide⟩ (by rw [dkw4]; decide)
theorem dm6 : Sm dk6 := crash_sm dm5 _ _
theorem dm7 : Sm dk7 := do_sm dm6 _ ⟨by decide, by decide, by decide⟩ (by rw [dkw6]; decide)
theorem dm8 : Sm dk8 := sync_sm dm7
theorem dm9 : Sm dk9 := dm8
theorem dm10 : Sm dk10 := do_sm dm9 _ ⟨by decide, by decide, by decide⟩ (by rw [dkw9]; decide)
theorem dm11 : Sm dk11 := sync_sm dm10
theorem dm12 : Sm dk12 := fuse_sm dm11 _ _ _ (by decide) (by decide)
theorem dm13 : Sm dk13 := do_sm dm12 _ ⟨by decide, by decide, by decide⟩ (by rw [dkw12]; decide)
theorem dm14 : Sm dk14 := do_sm dm13 _ ⟨by decide, by decide, by decide⟩ (by rw [dkw13]; decide)
theorem own_boxy {w : World} {g n : Nat} {B : Option Nat} {S : DS} (hD : DiskAt w g n B S) : ∀ k, k < w.heap.size → Own g B k → Boxy w k := fun k _ hk => by
  rcases hk with rfl | hk
  · exact hD.boxy
  · exact (hD.boxyB hk.symm).1
theorem new_bad : goodP [((⟨#[]⟩, false, .slice none 0 0, []) : Ent)] = false := by kernel_rfl
theorem eraC1 {C : List Ent} {p : ByteArray} {d : Bool} {b : List (BitVec 8)} (h : era C = [(p, d, undef, b)]) : ∃ v, C = [(p, d, v, b)] := by
  match C, h with
  | [(p', d', v, b')], h => 
    injection h with h _
    have h1 : p' = p := congrArg (fun e : Ent => e.1) h
    have h2 : d' = d := congrArg (fun e : Ent => e.2.1) h
    have h3 : b' = b := congrArg (fun e : Ent => e.2.2.2) h
    subst h1 h2 h3
    exact ⟨v, rfl⟩
  | _ :: _ :: _, h => have := congrArg List.length h; simp [era] at this
theorem eraC2 {C : List Ent} {p p2 : ByteArray} {d d2 : Bool} {b b2 : List (BitVec 8)} (h : era C = [(p, d, undef, b), (p2, d2, undef, b2)]) : ∃ v v2, C = [(p, d, v, b), (p2, d2, v2, b2)] := by
  match C, h with
  | e :: C, h =>
    have h' : era1 e :: era C = [(p, d, undef, b), (p2, d2, undef, b2)] := h
    injection h' with h1 h2
    obtain ⟨v2, rfl⟩ := eraC1 h2
    obtain ⟨p', d', v, b'⟩ := e
    have h1' : p' = p := congrArg (fun e : Ent => e.1) h1
    have h2' : d' = d := congrArg (fun e : Ent => e.2.1) h1
    have h3' : b' = b := congrArg (fun e : Ent => e.2.2.2) h1
    subst h1' h2' h3'
    exact ⟨v, v2, rfl⟩
theorem rdt_l {w : World} {v : Value} (h : RdT w v [(pA, false, undef, d3)]) : ∃ a c qb cb, v = .slice (some a) 1 c ∧ w.cell? a = some (.string pA) ∧ w.cell? ⟨a.block, a.off + 2, none⟩ = some (.slice qb 3 cb) ∧ Sees w w.heap.size qb (d3.map u8v) := by
  obtain ⟨C, e, ⟨q, c, h1, h2, h3, h4⟩, h5⟩ := h
  obtain ⟨v2, rfl⟩ := eraC1 e
  obtain ⟨a, rfl, _, hc⟩ := h4.ent (i := 0) (by simp)
  obtain ⟨c1, _, c3⟩ := hc w (Below.refl _ _)
  obtain ⟨qb, cb, hv, _, _, hs⟩ := h5 _ (List.mem_cons_self ..)
  have hv' : v2 = .slice qb 3 cb := hv
  subst hv'
  have ea : a.add (0 * 3) = a := by simp [Addr.add]
  rw [ea] at c1 c3
  exact ⟨a, c, qb, cb, h1, c1, c3, hs⟩
theorem rdt_o {w : World} {v : Value} (h : RdT w v [(pBk, true, undef, []), (pBC, false, undef, d3)]) : ∃ a c qb cb, v = .slice (some a) 2 c ∧ w.cell? (a.add 3) = some (.string pBC) ∧ w.cell? ⟨(a.add 3).block, (a.add 3).off + 2, none⟩ = some (.slice qb 3 cb) ∧ Sees w w.heap.size qb (d3.map u8v) := by
  obtain ⟨C, e, ⟨q, c, h1, h2, h3, h4⟩, h5⟩ := h
  obtain ⟨v1, v2, rfl⟩ := eraC2 e
  obtain ⟨a, rfl, _, hc⟩ := h4.ent (i := 1) (by simp)
  obtain ⟨c1, _, c3⟩ := hc w (Below.refl _ _)
  obtain ⟨qb, cb, hv, _, _, hs⟩ := h5 (pBC, false, v2, d3) (by simp)
  have hv' : v2 = .slice qb 3 cb := hv
  subst hv'
  exact ⟨a, c, qb, cb, h1, c1, c3, hs⟩
set_option maxHeartbeats 32000000 in
set_option maxRecDepth 100000 in
theorem known9_any (w : World) : Calls Tryd.prog 4 #[] w fun e w' => e = .returned (.bool true) ∧ Below w.heap.size w w' := by
  go_enter Tryd.func4, Tryd.ntmps4
  go_wp2_with fail
  refine (awake9_any _).mono ?_
  rintro e w0 ⟨rfl, hb⟩
  have HB := Lib.hid hb
  clear hb
  go_wp2_with fail
  refine (new_any [] none 0 (-1) (Nat.le_refl _) (by simp) (fun _ => rfl) (by simp [bytesT]) (fun _ h => by cases h) w0 (Sees.nil _ _ _) (fun _ h => by cases h)).mono ?_
  rintro e w1 ⟨hn, hb⟩
  replace HB := Lib.hid (HB.out.trans (hb.mono HB.out.size))
  obtain rfl : e = .returned (.tuple #[.pointer none, .int .i64 1]) := by
    unfold newP at hn; rwa [if_neg (by omega)] at hn
  clear hn hb
  have hb := (Below.refl w1.heap.size w1).alloc (Nat.le_refl _) (.cells #[.string ⟨#[]⟩, .bool false, .slice none 0 0] 32)
  have HX : Hid (Sees (w1.alloc (.cells #[.string ⟨#[]⟩, .bool false, .slice none 0 0] 32)) (w1.alloc (.cells #[.string ⟨#[]⟩, .bool false, .slice none 0 0] 32)).heap.size (some ⟨w1.heap.size, 0, none⟩) (rowC [((⟨#[]⟩, false, .slice none 0 0, []) : Ent)])) := Lib.hid (Sees.of_has (Has.made w1 _ _) (by simp))
  replace HB := Lib.hid (HB.out.trans (hb.mono HB.out.size))
  clear hb
  go_wp2_with fail
  generalize w1.alloc (.cells #[.string ⟨#[]⟩, .bool false, .slice none 0 0] 32) = w2 at *
  refine (new_any [((⟨#[]⟩, false, .slice none 0 0, []) : Ent)] (some ⟨w1.heap.size, 0, none⟩) 1 9 (Nat.le_refl _) (by simp) (fun h => by cases h) (by simp [bytesT, Ent.by]) (fun e h => by rw [List.mem_singleton.1 h]; decide) w2 HX.out (fun e h => by rw [List.mem_singleton.1 h]; exact Bs.nil _)).mono ?_
  rintro e w3 ⟨hn, hb⟩
  replace HB := Lib.hid (HB.out.trans (hb.mono HB.out.size))
  obtain rfl : e = .returned (.tuple #[.pointer none, .int .i64 1]) := by
    unfold newP at hn; rwa [if_neg (by rw [new_bad]; simp)] at hn
  clear hn hb HX
  go_wp2_with fail
  refine (new_any [] none 0 5 (Nat.le_refl _) (by simp) (fun _ => rfl) (by simp [bytesT]) (fun _ h => by cases h) w3 (Sees.nil _ _ _) (fun _ h => by cases h)).mono ?_
  rintro e w4 ⟨hn, hb⟩
  have HLE := Lib.hid HB.out.size
  replace HB := Lib.hid (HB.out.trans (hb.mono HB.out.size))
  obtain ⟨g, rfl, hg, hd⟩ := newP_ok hn (by decide) (by decide)
  have HG : Hid (w.heap.size ≤ g) := Lib.hid (Nat.le_trans HLE.out hg)
  have HD : Hid (DiskAt w4 g (g + 1) none dk0) := Lib.hid hd
  clear hn hb hg hd
  go_wp2_with fail
  refine (do_any _ _ _ dk0 7 pE0 pE0 [] (none) 0 (by decide) (by decide) (by decide) (by decide) (fun h => rfl) dm0 (by rw [dkw0]; decide) (by rw [dkc0]; decide) _ HD.out (Sees.nil _ _ _)).mono ?_
  rintro e w5 ⟨rfl, ha⟩
  replace HB := Lib.hid (HB.out.trans (After.below HD.out ha HG.out))
  obtain ⟨_, hD2, _, hf⟩ := ha
  replace HD : Hid (DiskAt w5 g (g + 1) _ dk1) := Lib.hid hD2
  clear hD2 hf
  rw [dke0]
  have hcv := conv_new w5 #[.int .u8 49, .int .u8 50, .int .u8 51, .int .u8 52, .int .u8 53, .int .u8 54] 6 6
  rw [show (#[Value.int .u8 49, .int .u8 50, .int .u8 51, .int .u8 52, .int .u8 53, .int .u8 54] : Array Value).size = 6 from rfl] at hcv
  have hb := (Below.refl w5.heap.size w5).alloc (Nat.le_refl _) (.cells #[.int .u8 49, .int .u8 50, .int .u8 51, .int .u8 52, .int .u8 53, .int .u8 54] 5 (6, 7))
  have HX : Hid (Sees (w5.alloc (.cells #[.int .u8 49, .int .u8 50, .int .u8 51, .int .u8 52, .int .u8 53, .int .u8 54] 5 (6, 7))) (w5.alloc (.cells #[.int .u8 49, .int .u8 50, .int .u8 51, .int .u8 52, .int .u8 53, .int .u8 54] 5 (6, 7))).heap.size (some ⟨w5.heap.size, 0, none⟩) (d6.map u8v)) := Lib.hid (by have h := made_sees w5 d6 #[.int .u8 49, .int .u8 50, .int .u8 51, .int .u8 52, .int .u8 53, .int .u8 54] (6, 7) rfl; simpa using h)
  replace HB := Lib.hid (HB.out.trans (hb.mono HB.out.size))
  replace HD := Lib.hid (HD.out.keep hb)
  clear hb
  go_wp2_with fail
  clear hcv
  generalize w5.alloc (.cells #[.int .u8 49, .int .u8 50, .int .u8 51, .int .u8 52, .int .u8 53, .int .u8 54] 5 (6, 7)) = wx at *
  refine (do_any _ _ _ dk1 1 pA pE0 d6 (some ⟨w5.heap.size, 0, none⟩) 6 (by decide) (by decide) (by decide) (by decide) (fun h => (by cases h)) dm1 (by rw [dkw1]; decide) (by rw [dkc1]; decide) _ HD.out HX.out).mono ?_
  rintro e w6 ⟨rfl, ha⟩
  replace HB := Lib.hid (HB.out.trans (After.below HD.out ha HG.out))
  obtain ⟨_, hD2, _, hf⟩ := ha
  replace HD : Hid (DiskAt w6 g (g + 1) _ dk2) := Lib.hid hD2
  clear hD2 hf
  rw [dke1]
  clear HX
  have hcv := conv_new w6 #[.int .u8 49, .int .u8 50, .int .u8 51, .int .u8 52, .int .u8 53] 5 5
  rw [show (#[Value.int .u8 49, .int .u8 50, .int .u8 51, .int .u8 52, .int .u8 53] : Array Value).size = 5 from rfl] at hcv
  have hb := (Below.refl w6.heap.size w6).alloc (Nat.le_refl _) (.cells #[.int .u8 49, .int .u8 50, .int .u8 51, .int .u8 52, .int .u8 53] 5 (5, 6))
  have HX : Hid (Sees (w6.alloc (.cells #[.int .u8 49, .int .u8 50, .int .u8 51, .int .u8 52, .int .u8 53] 5 (5, 6))) (w6.alloc (.cells #[.int .u8 49, .int .u8 50, .int .u8 51, .int .u8 52, .int .u8 53] 5 (5, 6))).heap.size (some ⟨w6.heap.size, 0, none⟩) (d5.map u8v)) := Lib.hid (by have h := made_sees w6 d5 #[.int .u8 49, .int .u8 50, .int .u8 51, .int .u8 52, .int .u8 53] (5, 6) rfl; simpa using h)
  replace HB := Lib.hid (HB.out.trans (hb.mono HB.out.size))
  replace HD := Lib.hid (HD.out.keep hb)
  clear hb
  go_wp2_with fail
  clear hcv
  generalize w6.alloc (.cells #[.int .u8 49, .int .u8 50, .int .u8 51, .int .u8 52, .int .u8 53] 5 (5, 6)) = wx at *
  refine (do_any _ _ _ dk2 1 pA pE0 d5 (some ⟨w6.heap.size, 0, none⟩) 5 (by decide) (by decide) (by decide) (by decide) (fun h => (by cases h)) dm2 (by rw [dkw2]; decide) (by rw [dkc2]; decide) _ HD.out HX.out).mono ?_
  rintro e w7 ⟨rfl, ha⟩
  replace HB := Lib.hid (HB.out.trans (After.below HD.out ha HG.out))
  obtain ⟨_, hD2, _, hf⟩ := ha
  replace HD : Hid (DiskAt w7 g (g + 1) _ dk3) := Lib.hid hD2
  clear hD2 hf
  rw [dke2]
  clear HX
  go_wp2_with fail
  refine (do_any _ _ _ dk3 2 pBk pE0 [] (none) 0 (by decide) (by decide) (by decide) (by decide) (fun h => rfl) dm3 (by rw [dkw3]; decide) (by rw [dkc3]; decide) _ HD.out (Sees.nil _ _ _)).mono ?_
  rintro e w8 ⟨rfl, ha⟩
  replace HB := Lib.hid (HB.out.trans (After.below HD.out ha HG.out))
  obtain ⟨_, hD2, _, hf⟩ := ha
  replace HD : Hid (DiskAt w8 g (g + 1) _ dk4) := Lib.hid hD2
  clear hD2 hf
  rw [dke3]
  go_wp2_with fail
  refine (do_any _ _ _ dk4 4 pA pBC [] (none) 0 (by decide) (by decide) (by decide) (by decide) (fun h => rfl) dm4 (by rw [dkw4]; decide) (by rw [dkc4]; decide) _ HD.out (Sees.nil _ _ _)).mono ?_
  rintro e w9 ⟨rfl, ha⟩
  replace HB := Lib.hid (HB.out.trans (After.below HD.out ha HG.out))
  obtain ⟨_, hD2, _, hf⟩ := ha
  replace HD : Hid (DiskAt w9 g (g + 1) _ dk5) := Lib.hid hD2
  clear hD2 hf
  rw [dke4]
  go_wp2_with fail
  refine (waits_any _ _ _ dk5 dm5 _ HD.out).mono ?_
  rintro e w10 ⟨⟨v, rfl, ⟨LW, qw, cw, hLW, rfl, _, _⟩⟩, hb⟩
  have hlw : LW.length = 3 := by rw [← dkw5, ← hLW, List.length_map]
  rw [hlw]
  replace HB := Lib.hid (HB.out.trans (hb.mono HB.out.size))
  replace HD := Lib.hid (HD.out.keep hb)
  clear hb hLW hlw
  have hb := (Below.refl w10.heap.size w10).alloc (Nat.le_refl _) (.cells #[.int .i64 0, .int .i64 2, .int .i64 9, .int .i64 (-1)] 3)
  have HX : Hid (Sees (w10.alloc (.cells #[.int .i64 0, .int .i64 2, .int .i64 9, .int .i64 (-1)] 3)) (w10.alloc (.cells #[.int .i64 0, .int .i64 2, .int .i64 9, .int .i64 (-1)] 3)).heap.size (some ⟨w10.heap.size, 0, none⟩) (([0, 2, 9, -1] : List Int).map (Value.int .i64))) := Lib.hid (Sees.of_has (Has.made w10 _ _) (by simp))
  replace HB := Lib.hid (HB.out.trans (hb.mono HB.out.size))
  replace HD := Lib.hid (HD.out.keep hb)
  clear hb
  go_wp2_with fail
  generalize w10.alloc (.cells #[.int .i64 0, .int .i64 2, .int .i64 9, .int .i64 (-1)] 3) = w11 at *
  refine (crash_any _ _ _ dk5 [0, 2, 9, -1] (some ⟨w10.heap.size, 0, none⟩) 4 3 (by decide) dm5 _ HD.out HX.out).mono ?_
  rintro e w12 ⟨rfl, ha⟩
  replace HB := Lib.hid (HB.out.trans (After.below HD.out ha HG.out))
  obtain ⟨_, hD2, _, _⟩ := ha
  replace HD : Hid (DiskAt w12 g (g + 1) _ dk6) := Lib.hid hD2
  clear hD2 HX
  go_wp2_with fail
  refine (now_any _ _ _ _ _ HD.out).mono ?_
  rintro e w13 ⟨⟨v, rfl, hR⟩, hb⟩
  obtain ⟨ql, nl, cl, rfl⟩ := hR.slice
  replace HB := Lib.hid (HB.out.trans (hb.mono HB.out.size))
  replace HD := Lib.hid (HD.out.keep hb)
  clear hb
  have hb := (Below.refl w13.heap.size w13).alloc (Nat.le_refl _) (.cells #[.slice ql nl cl] 25)
  have HT1 : Hid (Has (w13.alloc (.cells #[.slice ql nl cl] 25)) w13.heap.size 25 [.slice ql nl cl]) := Lib.hid (Has.made w13 _ _)
  have HR1 := Lib.hid (hR.keep hb)
  replace HB := Lib.hid (HB.out.trans (hb.mono HB.out.size))
  replace HD := Lib.hid (HD.out.keep hb)
  clear hb hR
  go_wp2_with fail
  generalize w13.alloc (.cells #[.slice ql nl cl] 25) = w14 at *
  generalize w13.heap.size = G1 at *
  refine (do_any _ _ _ dk6 2 pZk pE0 [] (none) 0 (by decide) (by decide) (by decide) (by decide) (fun h => rfl) dm6 (by rw [dkw6]; decide) (by rw [dkc6]; decide) _ HD.out (Sees.nil _ _ _)).mono ?_
  rintro e w15 ⟨rfl, ha⟩
  replace HB := Lib.hid (HB.out.trans (After.below HD.out ha HG.out))
  obtain ⟨_, hD2, _, hf⟩ := ha
  replace HT1 := Lib.hid (hf.has (tree_own HD.out HT1.out) HT1.out)
  replace HR1 := Lib.hid (HR1.out.fr hf (own_boxy HD.out))
  replace HD : Hid (DiskAt w15 g (g + 1) _ dk7) := Lib.hid hD2
  clear hD2 hf
  rw [dke6]
  go_wp2_with fail
  refine (sync_any _ _ _ dk7 dm7 (by rw [dkc7]; decide) _ HD.out).mono ?_
  rintro e w16 ⟨rfl, ha, _⟩
  replace HB := Lib.hid (HB.out.trans (After.below HD.out ha HG.out))
  obtain ⟨_, hD2, _, hf⟩ := ha
  replace HT1 := Lib.hid (hf.has (tree_own HD.out HT1.out) HT1.out)
  replace HR1 := Lib.hid (HR1.out.fr hf (own_boxy HD.out))
  replace HD : Hid (DiskAt w16 g (g + 1) _ dk8) := Lib.hid hD2
  clear hD2 hf
  rw [dks7]
  go_wp2_with fail
  refine (on_any _ _ _ dk8 _ HD.out).mono ?_
  rintro e w17 ⟨rfl, ha⟩
  replace HB := Lib.hid (HB.out.trans (After.below HD.out ha HG.out))
  obtain ⟨_, hD2, _, hf⟩ := ha
  replace HT1 := Lib.hid (hf.has (tree_own HD.out HT1.out) HT1.out)
  replace HR1 := Lib.hid (HR1.out.fr hf (own_boxy HD.out))
  replace HD : Hid (DiskAt w17 g (g + 1) _ dk9) := Lib.hid hD2
  clear hD2 hf
  go_wp2_with fail
  refine (do_any _ _ _ dk9 2 pBk pE0 [] (none) 0 (by decide) (by decide) (by decide) (by decide) (fun h => rfl) dm9 (by rw [dkw9]; decide) (by rw [dkc9]; decide) _ HD.out (Sees.nil _ _ _)).mono ?_
  rintro e w18 ⟨rfl, ha⟩
  replace HB := Lib.hid (HB.out.trans (After.below HD.out ha HG.out))
  obtain ⟨_, hD2, _, hf⟩ := ha
  replace HT1 := Lib.hid (hf.has (tree_own HD.out HT1.out) HT1.out)
  replace HR1 := Lib.hid (HR1.out.fr hf (own_boxy HD.out))
  replace HD : Hid (DiskAt w18 g (g + 1) _ dk10) := Lib.hid hD2
  clear hD2 hf
  rw [dke9]
  go_wp2_with fail
  refine (sync_any _ _ _ dk10 dm10 (by rw [dkc10]; decide) _ HD.out).mono ?_
  rintro e w19 ⟨rfl, ha, _⟩
  replace HB := Lib.hid (HB.out.trans (After.below HD.out ha HG.out))
  obtain ⟨_, hD2, _, hf⟩ := ha
  replace HT1 := Lib.hid (hf.has (tree_own HD.out HT1.out) HT1.out)
  replace HR1 := Lib.hid (HR1.out.fr hf (own_boxy HD.out))
  replace HD : Hid (DiskAt w19 g (g + 1) _ dk11) := Lib.hid hD2
  clear hD2 hf
  rw [dks10]
  have hb := (Below.refl w19.heap.size w19).alloc (Nat.le_refl _) (.cells #[.int .i64 0] 3)
  have HX : Hid (Sees (w19.alloc (.cells #[.int .i64 0] 3)) (w19.alloc (.cells #[.int .i64 0] 3)).heap.size (some ⟨w19.heap.size, 0, none⟩) (([0] : List Int).map (Value.int .i64))) := Lib.hid (Sees.of_has (Has.made w19 _ _) (by simp))
  have HNG : Hid (w19.heap.size ≠ g) := Lib.hid (by have := HD.out.lt; omega)
  replace HB := Lib.hid (HB.out.trans (hb.mono HB.out.size))
  replace HD := Lib.hid (HD.out.keep hb)
  replace HT1 := Lib.hid (HT1.out.keep hb HT1.out.lt)
  replace HR1 := Lib.hid (HR1.out.keep hb)
  clear hb
  go_wp2_with fail
  generalize w19.alloc (.cells #[.int .i64 0] 3) = w20 at *
  refine (fuse_any _ _ _ dk11 2 [0] (some ⟨w19.heap.size, 0, none⟩) 1 (-1) (by decide) (fun h => by cases h) _ HD.out HX.out (fun a h _ => by cases h; exact HNG.out)).mono ?_
  rintro e w21 ⟨rfl, ha⟩
  replace HB := Lib.hid (HB.out.trans (After.below HD.out ha HG.out))
  obtain ⟨_, hD2, _, hf⟩ := ha
  replace HT1 := Lib.hid (hf.has (tree_own HD.out HT1.out) HT1.out)
  replace HR1 := Lib.hid (HR1.out.fr hf (own_boxy HD.out))
  replace HD : Hid (DiskAt w21 g (g + 1) _ dk12) := Lib.hid hD2
  clear hD2 hf
  clear HX HNG
  go_wp2_with fail
  refine (do_any _ _ _ dk12 4 pA pBC [] (none) 0 (by decide) (by decide) (by decide) (by decide) (fun h => rfl) dm12 (by rw [dkw12]; decide) (by rw [dkc12]; decide) _ HD.out (Sees.nil _ _ _)).mono ?_
  rintro e w22 ⟨rfl, ha⟩
  replace HB := Lib.hid (HB.out.trans (After.below HD.out ha HG.out))
  obtain ⟨_, hD2, _, hf⟩ := ha
  replace HT1 := Lib.hid (hf.has (tree_own HD.out HT1.out) HT1.out)
  replace HR1 := Lib.hid (HR1.out.fr hf (own_boxy HD.out))
  replace HD : Hid (DiskAt w22 g (g + 1) _ dk13) := Lib.hid hD2
  clear hD2 hf
  rw [dke12]
  go_wp2_with fail
  refine (do_any _ _ _ dk13 3 pQk pE0 [] (none) 0 (by decide) (by decide) (by decide) (by decide) (fun h => rfl) dm13 (by rw [dkw13]; decide) (by rw [dkc13]; decide) _ HD.out (Sees.nil _ _ _)).mono ?_
  rintro e w23 ⟨rfl, ha⟩
  replace HB := Lib.hid (HB.out.trans (After.below HD.out ha HG.out))
  obtain ⟨_, hD2, _, hf⟩ := ha
  replace HT1 := Lib.hid (hf.has (tree_own HD.out HT1.out) HT1.out)
  replace HR1 := Lib.hid (HR1.out.fr hf (own_boxy HD.out))
  replace HD : Hid (DiskAt w23 g (g + 1) _ dk14) := Lib.hid hD2
  clear hD2 hf
  rw [dke13]
  go_wp2_with fail
  refine (now_any _ _ _ _ _ HD.out).mono ?_
  rintro e w24 ⟨⟨v, rfl, hR⟩, hb⟩
  obtain ⟨qo, no, co, rfl⟩ := hR.slice
  replace HB := Lib.hid (HB.out.trans (hb.mono HB.out.size))
  replace HD := Lib.hid (HD.out.keep hb)
  replace HT1 := Lib.hid (HT1.out.keep hb HT1.out.lt)
  replace HR1 := Lib.hid (HR1.out.keep hb)
  clear hb
  have hb := (Below.refl w24.heap.size w24).alloc (Nat.le_refl _) (.cells #[.slice qo no co] 25)
  have HT2 : Hid (Has (w24.alloc (.cells #[.slice qo no co] 25)) w24.heap.size 25 [.slice qo no co]) := Lib.hid (Has.made w24 _ _)
  have HR2 := Lib.hid (hR.keep hb)
  replace HB := Lib.hid (HB.out.trans (hb.mono HB.out.size))
  replace HD := Lib.hid (HD.out.keep hb)
  replace HT1 := Lib.hid (HT1.out.keep hb HT1.out.lt)
  replace HR1 := Lib.hid (HR1.out.keep hb)
  clear hb hR
  rw [dk6n] at HR1
  rw [dk14n] at HR2
  have HOF := Lib.hid dk14o
  have HCN := Lib.hid dkc14
  have HWL := Lib.hid dkw14
  have HSM := Lib.hid dm14
  generalize dk14 = S at *
  obtain ⟨al, cl', qbl, cbl, el, cl1, cl2, hsl⟩ := rdt_l HR1.out
  obtain ⟨ao, co', qbo, cbo, eo, co1, co2, hso⟩ := rdt_o HR2.out
  cases el
  cases eo
  generalize hwg : w24.alloc (.cells #[.slice (some ao) 2 co] 25) = w25 at *
  have t1 := HT1.out.cellv (i := 0) (v := .slice (some al) 1 cl) rfl
  have t2 := HT2.out.cellv (i := 0) (v := .slice (some ao) 2 co) rfl
  have r1 := str_run d3 qbl cbl _ _ hsl
  have r2 := str_run d3 qbo cbo _ _ hso
  have hpa : pA.toList = [97] := by kernel_rfl
  have hpb : pBC.toList = [98, 47, 99] := by kernel_rfl
  have hd3 : (strB d3).toList = [49, 50, 51] := by kernel_rfl
  have hl3 : d3.length = 3 := rfl
  rw [hl3] at r1 r2
  have co3 : _ = _ := (show w25.cell? ⟨ao.block, ao.off + 3, none⟩ = some (.string pBC) from co1)
  have co4 : _ = _ := (show w25.cell? ⟨ao.block, ao.off + 3 + 2, none⟩ = some (.slice qbo 3 cbo) from co2)
  have co5 : _ = _ := (show w25.cell? ⟨ao.block, ao.off + 5, none⟩ = some (.slice qbo 3 cbo) from co2)
  go_wp2_with fail
  refine (off_any _ _ _ _ _ HD.out).mono ?_
  rintro e w26 ⟨rfl, hb⟩
  rw [HOF.out]
  replace HB := Lib.hid (HB.out.trans (hb.mono HB.out.size))
  replace HD := Lib.hid (HD.out.keep hb)
  replace HT2 := Lib.hid (HT2.out.keep hb HT2.out.lt)
  replace HR2 := Lib.hid (HR2.out.keep hb)
  clear hb r1 r2 t1 t2 cl1 cl2 co1 co2 co3 co4 co5 hsl hso
  obtain ⟨ao', co', qbo, cbo, eo, co1, co2, hso⟩ := rdt_o HR2.out
  cases eo
  have t2 := HT2.out.cellv (i := 0) (v := .slice (some ao) 2 co) rfl
  have r2 := str_run d3 qbo cbo _ _ hso
  rw [hl3] at r2
  have co3 : _ = _ := (show w26.cell? ⟨ao.block, ao.off + 3, none⟩ = some (.string pBC) from co1)
  have co4 : _ = _ := (show w26.cell? ⟨ao.block, ao.off + 3 + 2, none⟩ = some (.slice qbo 3 cbo) from co2)
  have co5 : _ = _ := (show w26.cell? ⟨ao.block, ao.off + 5, none⟩ = some (.slice qbo 3 cbo) from co2)
  go_wp2_with fail
  refine (count_any _ _ _ _ _ HD.out).mono ?_
  rintro e w27 ⟨rfl, hb⟩
  rw [HCN.out]
  replace HB := Lib.hid (HB.out.trans (hb.mono HB.out.size))
  replace HD := Lib.hid (HD.out.keep hb)
  clear hb
  go_wp2_with fail
  refine (waits_any _ _ _ S HSM.out _ HD.out).mono ?_
  rintro e w28 ⟨⟨v, rfl, ⟨LW, qw, cw, hLW, rfl, _, _⟩⟩, hb⟩
  have hlw : LW.length = 0 := by rw [← HWL.out, ← hLW, List.length_map]
  rw [hlw]
  replace HB := Lib.hid (HB.out.trans (hb.mono HB.out.size))
  clear hb hLW
  go_wp2_with fail
  go_ret
  exact ⟨rfl, HB.out⟩
end Go.Proofs.YtefamkckoikeoaaDoor
namespace Go.Proofs.YtefamkckoikeoaaDoor
open Go.ChangeShapes Go.WideShapes Go.ChangeAt Go.RowKit Go.ChangeMaps
set_option maxRecDepth 100000 in
theorem known9_lifted (os : Os) (started : os.Started) (H : Type) (enc : TypeId × Value → H) :
    ReturnsInHanded {} Tryd.checked os 4 .any (fun w args => (Rows.diskKnownSpec.pre enc Tryd.prog Tryd.f4 [] false w args ∧ laidMetH Tryd.prog laidVars w) ∧ sizedMet enc Tryd.prog Tryd.f4 (OpenSpec.ofChange Rows.diskKnownSpec) false w args)
      (Rows.diskKnownSpec.post enc Tryd.prog Tryd.f4 false true false false) := by
  refine returnsInHanded_of_change_and (C := Tryd.checked) (X := fun w _ => laidMetH Tryd.prog laidVars w) (fun _ _ _ hh h => h.of_heap hh) own started (by kernel_rfl) Tryd.func4
    (ChangeSpec.witness_shaped (enc := enc) (C := Tryd.checked) (os := os) (X := fun w _ => laidMetH Tryd.prog laidVars w) false (World.laidAll Tryd.prog os laidVars) #[] 8 (World.laidAll_os _ _ _) (World.shaped_of_ZipB (by kernel_rfl) (by kernel_rfl)) (by kernel_rfl) (by kernel_rfl) (by kernel_rfl) (laid_met os _)) ?_
  intro W base args ds gs before hval0 hW _ hsz0 hL _
  have hval : ∀ (j : Nat) t v, Tryd.f4.params[j]? = some t → args[j]? = some v → Value.okWide Tryd.prog W .any base t v := hval0
  have hW' := hW
  obtain ⟨p, q, hA0, hV, rfl, hfz, hnd⟩ := hW
  have hA : DataW.TrodAll enc Tryd.prog W 0 (fun _ => true) true Tryd.f4.params.toList args.toList ds p := hA0
  have hsz : (DataW.weightsEach Tryd.prog (Tryd.f4.params.toList ++ Rows.diskKnownSpec.plain.varTypes Tryd.prog) (ds ++ gs)).all (· ≤ reachBytes) = true := hsz0
  rw [Tryd.params4] at hA hval hsz
  obtain ⟨h1, rfl, rfl⟩ := trodAll_nil hA
  obtain rfl : args = #[] := by cases args; simp_all
  obtain ⟨rfl, rfl⟩ := trodVars_none hV
  clear hA0 hval0
  refine (known9_any W).mono fun e W' ⟨he, bel⟩ => ?_
  subst he
  exact ⟨_, rfl, _, _, _, [], _, [], hW', trodAll_mk1 (shut_bool Tryd.underlying4 _), trodAll_mk0, rfl, bel.frame _, fun h => by cases h⟩
theorem known9_row : Rows.DiskKnownSaid :=
  OpenClaim.holds_of_wide 4 Tryd.f4 rfl rfl rfl rfl rfl rfl rfl ⟨rfl, rfl, rfl, rfl, rfl⟩ rfl rfl rfl rfl rfl (by kernel_rfl) Tryd.func4 (by kernel_rfl)
    (of_decide_eq_true (by kernel_rfl)) (by unfold Func.isWrapper; first | (rw [if_pos (by decide +kernel)]; kernel_rfl) | (rw [if_neg (by decide +kernel)]; exact ⟨rfl, rfl⟩))
    (fun os started H enc _ => known9_lifted os started H enc)
theorem diskKnown_holds : Rows.DiskKnownCardSaid :=
  Claim7.holds_tied_plain_at .later [] [.data, .pinned] true Rows.diskKnownCard.stood.harness Rows.diskKnownCard.stood.looks
    known9_row (fun _ h => by cases h) (by kernel_rfl) (fun _ h => by cases h) diskKnown_row_tie rfl ⟨rfl, rfl⟩ (by kernel_rfl) rfl
    (fun f fn hf hfn => by
      obtain rfl : f = 4 := Option.some.inj ((show Tryd.prog.funcNamed "tallyman/tallymanlaw9.DiskKnown" = some 4 by kernel_rfl).symm.trans hf) |>.symm
      obtain rfl : fn = Tryd.f4 := (Option.some.inj (Tryd.func4.symm.trans hfn)).symm
      exact ⟨by kernel_rfl, fun j t ht => by
        rw [Tryd.params4] at ht
        simp at ht⟩)
    (by kernel_rfl)
#print axioms diskKnown_holds
end Go.Proofs.YtefamkckoikeoaaDoor
