/- The law DiskAll returns true at every input, and its argument reads as it did. No condition. -/
import Derived.Test.YtefamkckoikeoaaDoorBase5
import Derived.Test.YtefamkckoikeoaaDoorCards
import Derived.Test.YtefamkckoikeoaaDoorTie
import Derived.ShutString
import Derived.ChangeOld
import Derived.SevenTiedAt
/- The law DiskAll returns true, whatever the changes. Conditions: strings of at most 2^61 bytes, bytes at most 2^47. -/
namespace Go.Proofs.YtefamkckoikeoaaDoor
open Go.RowKit
theorem tear_all (c : Chg) : tearC c (-1) = c := by unfold tearC; rw [if_neg (by omega)]
theorem keptF_all {α : Type} (K : List Int) : ∀ (A : List α) (i : Nat), (∀ j, j < A.length → ((i + j : Nat) : Int) ∈ K) → keptF K i A = A
  | [], _, _ => rfl
  | a :: A, i, h => by
    show (if (i : Int) ∈ K then a :: keptF K (i + 1) A else keptF K (i + 1) A) = a :: A
    rw [if_pos (by have := h 0 (by simp); simpa using this), keptF_all K A (i + 1) fun j hj => by have := h (j + 1) (by simpa using hj); rwa [show i + 1 + j = i + (j + 1) by omega]]
def rangeI (n : Nat) : List Int := (List.range n).map fun (k : Nat) => (k : Int)
theorem rangeI_add (n : Nat) : rangeI (n + 1) = rangeI n ++ [(n : Int)] := by unfold rangeI; rw [List.range_succ, List.map_append]; rfl
theorem rangeI_len (n : Nat) : (rangeI n).length = n := by unfold rangeI; simp
theorem wp_addI {ops : Array Oper} {rest : List Oper} {o : Oper} {a : Act} {Q : Exit → Act → World → Prop}
    (hgd : o.guard = none) (sl x : Operand) (ho : o.op = .call { callee := .builtin .append, args := #[sl, x], argTypes := #[51, 51] }) {w : World} {base : Nat} {v : Value} {K : List Int} (R : w.ownsRow base 3 1 v K.length (K.map (Value.int .i64))) (hbase : base ≤ w.heap.size)
    (hs : a.eval sl = v) (g : Nat) (e : Int) (hx : a.eval x = .slice (some ⟨g, 0, none⟩) 1 1) (hc : Has w g 3 [.int .i64 e]) (hn : K.length ≤ 1000000)
    (h : ∀ v' w', w'.ownsRow base 3 1 v' (K ++ [e]).length ((K ++ [e]).map (Value.int .i64)) → Below base w w' → wpList Tryd.prog ops Q rest (a.put o.dst v') w') : wpList Tryd.prog ops Q (o :: rest) a w := by
  obtain ⟨i0, hi, hz0, hz1, hz2⟩ := info_parts int_info
  refine wpList_append_own _ hgd sl x 51 ho base 3 i0 _ 1 8 Tryd.underlying51 hi hz0 hz1 hz2 rfl (by decide) v K.length (K.map (Value.int .i64)) hs R ⟨g, 0, none⟩ 1 1 [.int .i64 e] hx rfl ?_ ?_ (by unfold maxLen; omega) (by omega) hbase
    fun v' w' ho' hg' _ => h v' w' (by rw [List.map_append, List.length_append]; exact ho') ((Below.refl base w).grown hg' hbase (fun k hk => own_baseN R k hk))
  · intro j u hj
    have e2 : (Addr.add ⟨g, 0, none⟩ j) = ⟨g, j, none⟩ := by unfold Addr.add; split <;> simp_all
    rw [e2]; exact hc.cellv hj
  · intro u hu
    rw [List.mem_singleton.1 hu]; rfl
theorem same_ok {w : World} {v u : Value} {X : List Ent} (h : RdT w v X) (h' : RdT w u X) (hg : goodP X = true) : Calls Tryd.prog 15 #[.agg #[v], .agg #[u]] w fun e w2 => e = .returned (.bool true) ∧ Below w.heap.size w w2 := by
  obtain ⟨C, q, c, rfl, _, h2, _, h4, h5, h6, h7, _, h8, h9, h10⟩ := rdt_parts h hg
  obtain ⟨D, p, d, rfl, _, k2, _, k4, k5, k6, k7, _, k8, k9, k10⟩ := rdt_parts h' hg
  have := tsame_any C D q p c d (by omega) (by omega) h2 k2 (by omega) (by omega) (fun e he => by have := h10 e he; omega) (fun e he => by have := k10 e he; omega) w h4 k4 h5 k5
  have e1 : sameT C D = true := by
    unfold sameT
    rw [h6, k6, sim_like (h7.trans k7.symm)]; rfl
  rwa [e1] at this
theorem tree_own {w : World} {g n : Nat} {B : Option Nat} {S : DS} {k : Nat} {l : List Value} (hD : DiskAt w g n B S) (h : Has w k 25 l) : ¬ Own g B k := fun hk => by
  obtain ⟨_, _, _, vn, vl, vw, vk, hh, _, _, e, ⟨L, _, h8, _, _⟩, _⟩ := hD
  rcases hk with rfl | hk
  · exact (hh.apart h (by decide)) rfl
  · have hb : vw.ownBlock = some k := e.symm.trans hk.symm
    rcases h8.2 with ⟨rfl, _⟩ | ⟨g', cap, cur, rfl, _, hg', _⟩
    · cases hb
    · have hk' : g' = k := by simpa [Value.ownBlock] using hb
      subst hk'
      have h2 : Has w g' 47 cur.toList := by unfold Has; simpa using hg'
      exact (h2.apart h (by decide)) rfl
/-- A disk that holds what the law's loop asks. -/
def AllI (w : World) (g : Nat) (i : Nat) (B : Option Nat) (S : DS) : Prop := DiskAt w g (g + 1) B S ∧ Sm S ∧ S.waits.length ≤ i ∧ S.lasts = [] ∧ S.now = foldC [] S.waits (-1) ∧ Lit S ∧ 0 ≤ S.count ∧ S.count ≤ i
theorem all_do {S : DS} {c : Chg} {i : Nat} (h1 : S.waits.length ≤ i) (h2 : S.lasts = []) (h3 : S.now = foldC [] S.waits (-1)) (h4 : Lit S) (h5 : 0 ≤ S.count) (h6 : S.count ≤ i) :
    (doS S c).1.waits.length ≤ i + 1 ∧ (doS S c).1.lasts = [] ∧ (doS S c).1.now = foldC [] (doS S c).1.waits (-1) ∧ Lit (doS S c).1 ∧ 0 ≤ (doS S c).1.count ∧ (doS S c).1.count ≤ ((i + 1 : Nat) : Int) := by
  refine ⟨?_, ?_, ?_, do_lit2 h4 c, ?_⟩ <;> rcases do_lit h4 c with ⟨h, _⟩ | ⟨_, _, h⟩ <;> rw [h]
  · omega
  · simp only [List.length_append, List.length_singleton]; omega
  · exact h2
  · exact h2
  · exact h3
  · show (chE S.now c).1 = foldC [] (S.waits ++ [c]) (-1)
    rw [foldC_add, tear_all, ← h3]
  · exact ⟨h5, by omega⟩
  · show 0 ≤ S.count + 1 ∧ S.count + 1 ≤ ((i + 1 : Nat) : Int)
    omega
noncomputable def chkAA : Array Oper := regOf Tryd.f7.body 21
set_option maxRecDepth 100000 in
theorem chkAA_ok : otcB [.inl (0, true), .inl (2, true), .inl (1, false), .inl (3, false), .inl (4, true), .inl (5, true), .inl (7, true), .inl (6, false), .inl (8, false), .inl (9, true), .inl (10, true)] chkAA = true := by kernel_rfl
set_option maxHeartbeats 16000000 in
set_option maxRecDepth 100000 in
theorem all9_any (L : List ActE) (q : Option Addr) (c : Nat) (hz : ∀ e ∈ L, okC e) (w : World) (hs : Sees w w.heap.size q (rowA L)) (hB : ∀ e ∈ L, Bs w e.2.2.2.1 e.2.2.2.2) :
    Calls Tryd.prog 7 #[.slice q L.length c] w fun e w' => e = .returned (.bool true) ∧ Below w.heap.size w w' := by
  have HS := Lib.hid hs
  have HBL := Lib.hid hB
  have HZ := Lib.hid hz
  clear hs hB hz
  go_enter Tryd.func7, Tryd.ntmps7
  go_wp2_with fail
  refine (awake9_any _).mono ?_
  rintro e w0 ⟨rfl, hb⟩
  have HB := Lib.hid hb
  clear hb
  by_cases hl : 30 < L.length
  · have kl : (30 : Int) < (L.length : Int) := by omega
    go_wp2_with fail
    go_ret
    exact ⟨rfl, HB.out⟩
  have kl : ¬ (30 : Int) < (L.length : Int) := by omega
  go_wp2_with fail
  refine (new_any [] none 0 16384 (Nat.le_refl _) (by simp) (fun _ => rfl) (by simp [bytesT]) (fun _ h => by cases h) w0 (Sees.nil _ _ _) (fun _ h => by cases h)).mono ?_
  rintro e w1 ⟨hn, hb⟩
  have HLE := Lib.hid HB.out.size
  replace HB := Lib.hid (HB.out.trans (hb.mono HB.out.size))
  obtain ⟨g, rfl, hg, hd⟩ := newP_ok hn (by decide) (by decide)
  have HG : Hid (w.heap.size ≤ g) := Lib.hid (Nat.le_trans HLE.out hg)
  have HI : Hid (AllI w1 g 0 none (newS [] 16384)) := Lib.hid ⟨hd, new_sm _ _, Nat.le_refl _, rfl, rfl, ⟨rfl, rfl⟩, Int.le_refl _, Int.le_refl _⟩
  clear hn hb hg hd
  generalize newS [] 16384 = S0 at *
  go_wp2_with fail
  go_loopw [6] (fun vi wr => ∃ (i : Nat) (B : Option Nat) (S : DS), i ≤ L.length ∧ vi = .int .i64 i ∧ AllI wr g i B S ∧ Below w.heap.size w wr) (fun vi _ => L.length - (intOf vi).toNat)
  case atStart => exact ⟨0, _, _, by omega, rfl, HI.out, HB.out⟩
  case round =>
    rename World => wr
    clear HB HI
    obtain ⟨i, B, S, hi, rfl, hI, hB⟩ := hrel
    have HB := Lib.hid hB
    obtain ⟨hD, hP⟩ := hI
    have HD := Lib.hid hD
    have HP := Lib.hid hP
    clear hB hD hP
    by_cases hlt : i < L.length
    · have kk : (i : Int) < (L.length : Int) := by omega
      obtain ⟨a, rfl, ha, hc⟩ := HS.out.act hlt
      obtain ⟨c0, c1, c2, c3⟩ := hc wr HB.out
      obtain ⟨qb, cb, hv, hcb, hqb, hsb⟩ := (HBL.out L[i] (List.getElem_mem hlt)).keep HB.out
      have hok := HZ.out L[i] (List.getElem_mem hlt)
      obtain ⟨e, he⟩ : ∃ e, L[i] = e := ⟨_, rfl⟩
      simp only [he] at c0 c1 c2 c3 hv hcb hsb hok
      obtain ⟨op, p, t, bv, bb⟩ := e
      have hv' : bv = .slice qb (List.length bb) cb := hv
      subst hv'
      simp only [] at c0 c1 c2 c3 hcb hsb hok
      have HOK : Hid (p.size < 2305843009213693952 ∧ t.size < 2305843009213693952 ∧ bb.length ≤ 140737488355328) := Lib.hid hok
      have hCNT : -9223372036854775808 ≤ S.count ∧ S.count < 9223372036854775807 := by have := HP.out.2.2.2.2.2; omega
      have HDO := Lib.hid (do_any g (g + 1) B S op p t bb qb cb HOK.out.1 HOK.out.2.1 HOK.out.2.2 hcb hqb HP.out.1 (by have := HP.out.2.1; omega) hCNT wr HD.out hsb)
      clear hc ha hv hcb hqb hsb hok he hCNT
      by_cases hx : 2100 < bb.length
      · have k1 : (2100 : Int) < (bb.length : Int) := by omega
        go_wp2_with fail
        go_ret
        exact ⟨rfl, HB.out⟩
      have k1 : ¬ (2100 : Int) < (bb.length : Int) := by omega
      go_wp2_with fail
      clear c0 c1 c2 c3
      refine HDO.out.mono ?_
      rintro e w3 ⟨rfl, ha⟩
      replace HB := Lib.hid (HB.out.trans (After.below HD.out ha HG.out))
      obtain ⟨_, hD2, _, _⟩ := ha
      replace HD := Lib.hid hD2
      clear hD2
      clear HDO
      have HN : Hid (Sm (doS S (op, p, t, bb)).1 ∧ _) := Lib.hid (And.intro (do_sm HP.out.1 (op, p, t, bb) HOK.out (by have := HP.out.2.1; omega)) (all_do (c := (op, p, t, bb)) HP.out.2.1 HP.out.2.2.1 HP.out.2.2.2.1 HP.out.2.2.2.2.1 HP.out.2.2.2.2.2.1 HP.out.2.2.2.2.2.2))
      have kwi : IntKind.i64.wrap ((i : Int) + 1) = (i : Int) + 1 := by rw [IntWalk.i64_in _ (by omega)]
      generalize doS S (op, p, t, bb) = R at *
      obtain ⟨S2, E⟩ := R
      simp only [] at HD HN
      go_wp2_with fail
      go_roundw
      case rel => exact ⟨i + 1, _, _, by omega, by go_num, ⟨HD.out, HN.out⟩, HB.out⟩
      case measure => simp [intOf]; omega
    · have hil : i = L.length := by omega
      subst hil
      have k0 : ¬ (L.length : Int) < (L.length : Int) := by omega
      clear hlt
      go_wp2_with fail
      refine (now_any _ _ _ _ _ HD.out).mono ?_
      rintro e w4 ⟨⟨v, rfl, hR⟩, hb⟩
      replace HB := Lib.hid (HB.out.trans (hb.mono HB.out.size))
      replace HD := Lib.hid (HD.out.keep hb)
      obtain ⟨qx, nx, cx, rfl⟩ := hR.slice
      have hb4 := (Below.refl w4.heap.size w4).alloc (Nat.le_refl _) (.cells #[.slice qx nx cx] 25)
      have HT : Hid (Has (w4.alloc (.cells #[.slice qx nx cx] 25)) w4.heap.size 25 [.slice qx nx cx]) := Lib.hid (Has.made w4 _ _)
      have HR := Lib.hid (hR.keep hb4)
      replace HB := Lib.hid (HB.out.trans (hb4.mono HB.out.size))
      replace HD := Lib.hid (HD.out.keep hb4)
      clear hb hb4 hR
      go_wp2_with fail
      generalize w4.alloc (.cells #[.slice qx nx cx] 25) = wk at *
      generalize w4.heap.size = GT at *
      have HNIL := Lib.hid (World.ownsRow_nil wk wk.heap.size 3 1)
      have HWL : Hid (S.waits.length ≤ 30) := Lib.hid (by have := HP.out.2.1; omega)
      obtain ⟨m, hm⟩ : ∃ m, m = S.waits.length := ⟨_, rfl⟩
      have HM := Lib.hid hm
      clear hm
      go_loopw [5, 8] (fun v vi wq => ∃ j : Nat, j ≤ m ∧ vi = .int .i64 j ∧ wq.ownsRow wk.heap.size 3 1 v (rangeI j).length ((rangeI j).map (Value.int .i64)) ∧ Below wk.heap.size wk wq) (fun _ vi _ => m - (intOf vi).toNat)
      case atStart => exact ⟨0, by omega, rfl, HNIL.out, Below.refl _ _⟩
      case round =>
        rename World => wq
        obtain ⟨j, hj, rfl, hrow, hBq⟩ := hrel
        have HROW := Lib.hid hrow
        have HBQ := Lib.hid hBq
        clear hrow hBq HNIL
        go_wp2_with fail
        refine (waits_any g (g + 1) B S HP.out.1 wq (HD.out.keep HBQ.out)).mono ?_
        rintro e w5 ⟨⟨v, rfl, ⟨LW, qw, cw, hLW, rfl, _, _⟩⟩, hb⟩
        have hlw : LW.length = m := by rw [HM.out, ← hLW, List.length_map]
        rw [hlw]
        have hbsz := HBQ.out.size
        replace HBQ := Lib.hid (HBQ.out.trans (hb.mono hbsz))
        replace HROW := Lib.hid (own_belowN HROW.out hb)
        have HSZ5 : Hid (wk.heap.size ≤ w5.heap.size) := Lib.hid HBQ.out.size
        clear hb hLW hlw hbsz
        by_cases hlt2 : j < m
        · have kk2 : (j : Int) < (m : Int) := by omega
          have kwj : IntKind.i64.wrap ((j : Int) + 1) = (j : Int) + 1 := by rw [IntWalk.i64_in _ (by have := HWL.out; have := HM.out; omega)]
          have hb5 := (Below.refl w5.heap.size w5).alloc (Nat.le_refl _) (.cells #[.int .i64 (j : Int)] 3)
          have HB6 : Hid (Below wk.heap.size wk (w5.alloc (.cells #[.int .i64 (j : Int)] 3))) := Lib.hid (HBQ.out.trans (hb5.mono HSZ5.out))
          have HR6 := Lib.hid (own_belowN HROW.out hb5)
          clear hb5
          go_wp2_with (refine wp_addI rfl (.tmp 49) (.tmp 51) rfl (base := wk.heap.size) HR6.out HB6.out.size rfl w5.heap.size (j : Int) rfl (Has.made w5 _ _) (by rw [rangeI_len]; have := HWL.out; have := HM.out; omega) ?_; intro v3 w6 ho3 hb3; have HROW2 := Lib.hid ho3; have HB7 := Lib.hid (HB6.out.trans hb3); clear ho3 hb3 HROW)
          go_roundw
          case rel => exact ⟨j + 1, by omega, by go_num, by rw [rangeI_add]; exact HROW2.out, HB7.out⟩
          case measure => simp [intOf]; omega
        · have hjm : j = m := by omega
          subst hjm
          have k0 : ¬ (j : Int) < (j : Int) := by omega
          replace HD := Lib.hid (HD.out.keep HBQ.out)
          replace HB := Lib.hid (HB.out.trans (HBQ.out.mono HB.out.size))
          replace HT := Lib.hid (HT.out.keep HBQ.out HT.out.lt)
          replace HR := Lib.hid (HR.out.keep HBQ.out)
          have HSK : Hid (∃ qk ck, u5 = .slice qk (rangeI j).length ck ∧ Sees w5 w5.heap.size qk ((rangeI j).map (Value.int .i64))) := Lib.hid (by
            rcases HROW.out.2 with ⟨h1, h0⟩ | ⟨g', cap, cur, h1, hb', hg', h2, h3, h4, h5⟩
            · refine ⟨none, 0, by rw [h1, h0], ?_⟩
              rw [List.eq_nil_of_length_eq_zero h0]; exact Sees.nil _ _ _
            · subst h1
              exact ⟨_, cap, rfl, fun _ => ⟨_, rfl, (Array.getElem?_eq_some_iff.1 hg').1, World.ownsRow.cells HROW.out (g := g') rfl⟩⟩)
          obtain ⟨qk, ck, rfl, hsk⟩ := HSK.out
          have HSE := Lib.hid hsk
          have HFIN : Hid ((crashS S (rangeI j) (-1)).now = S.now ∧ (crashS S (rangeI j) (-1)).lasts = S.now) := Lib.hid (by
            obtain ⟨_, _, h2, h3, h4, _⟩ := HP.out
            have hk : keptF (rangeI j) 0 S.waits = S.waits := keptF_all _ _ _ fun x hx => by
              unfold rangeI
              refine List.mem_map.2 ⟨x, List.mem_range.2 (by have := HM.out; omega), by simp⟩
            unfold crashS
            rw [if_neg (by rw [h4.1]; simp), hk, h2, ← h3]
            exact ⟨rfl, rfl⟩)
          have HGO := Lib.hid HD.out.2.2.1.now
          clear hlt2 HSK hsk HROW HBQ HSZ5
          go_wp2_with fail
          refine (crash_any g (g + 1) B S (rangeI j) qk ck (-1) (by rw [rangeI_len]; have := HWL.out; have := HM.out; omega) HP.out.1 w5 HD.out HSE.out).mono ?_
          rintro e w7 ⟨rfl, ha⟩
          obtain ⟨B2, hD2, hx, hf⟩ := id ha
          have hbx := HD.out.boxy
          have hbB : ∀ k, k < w5.heap.size → Own g B k → Boxy w5 k := fun k _ hk => by
            rcases hk with rfl | hk
            · exact hbx
            · exact (HD.out.boxyB hk.symm).1
          replace HR := Lib.hid (HR.out.fr hf hbB)
          have HTF : Hid (¬ Own g B GT) := Lib.hid (tree_own HD.out HT.out)
          replace HT := Lib.hid (hf.has HTF.out HT.out)
          replace HB := Lib.hid (HB.out.trans (After.below HD.out ha HG.out))
          replace HD := Lib.hid hD2
          clear hD2 hx hf ha hbx hbB HSE HTF
          rw [← HFIN.out.1] at HR HGO
          have HLN : Hid ((crashS S (rangeI j) (-1)).lasts = (crashS S (rangeI j) (-1)).now) := Lib.hid (HFIN.out.2.trans HFIN.out.1.symm)
          generalize crashS S (rangeI j) (-1) = T at *
          go_wp2_with fail
          refine wp_region_os [.inl (0, true), .inl (2, true), .inl (1, false), .inl (3, false), .inl (4, true), .inl (5, true), .inl (7, true), .inl (6, false), .inl (8, false), .inl (9, true), .inl (10, true)] _ chkAA_ok rfl (by kernel_rfl) (by kernel_rfl) (fun w' => Has w' GT 25 [.slice qx nx cx]) HT.out.drew ?_
          have hbd := (Below.refl w7.heap.size w7).drew
          replace HR := Lib.hid (HR.out.keep hbd)
          replace HD := Lib.hid (HD.out.keep hbd)
          replace HB := Lib.hid (HB.out.trans (hbd.mono HB.out.size))
          replace HT := Lib.hid (HT.out.keep hbd HT.out.lt)
          clear hbd
          generalize w7.drew = wd at *
          simp only [pickOt, List.getElem?_cons_zero, List.getElem?_cons_succ]
          refine os_pure (v := ?_) (by kernel_rfl) ?_ ?_
          rotate_left
          · intro w' hv; clear hv; go_simp; try with_reducible rfl
          try simp only [Act.put, List.setIfInBounds_toArray, List.set_cons_zero, List.set_cons_succ]
          refine os_pure (v := ?_) (by kernel_rfl) ?_ ?_
          rotate_left
          · intro w' hv; have cx := hv.cellv (i := 0) (v := .slice qx nx cx) rfl; clear hv; go_simp; try with_reducible rfl
          try simp only [Act.put, List.setIfInBounds_toArray, List.set_cons_zero, List.set_cons_succ]
          refine os_step (by kernel_rfl) (fun K hK => ?_)
          go_wp2_with fail
          refine (now_any _ _ _ _ _ HD.out).mono ?_
          rintro e wn ⟨⟨v, rfl, hR2⟩, hb⟩
          replace HB := Lib.hid (HB.out.trans (hb.mono HB.out.size))
          replace HD := Lib.hid (HD.out.keep hb)
          replace HT := Lib.hid (HT.out.keep hb HT.out.lt)
          replace HR := Lib.hid (HR.out.keep hb)
          have HR2 := Lib.hid hR2
          go_wp2_with fail
          refine ⟨HT.out, ?_⟩
          try clear hK
          clear hb hR2
          rename World => wd
          try simp only [Act.put, List.setIfInBounds_toArray, List.set_cons_zero, List.set_cons_succ]
          refine os_step (by kernel_rfl) (fun K hK => ?_)
          go_wp2_with fail
          refine (same_ok HR2.out HR.out HGO.out).mono ?_
          rintro e wn ⟨rfl, hb⟩
          replace HB := Lib.hid (HB.out.trans (hb.mono HB.out.size))
          replace HD := Lib.hid (HD.out.keep hb)
          replace HT := Lib.hid (HT.out.keep hb HT.out.lt)
          replace HR := Lib.hid (HR.out.keep hb)
          
          go_wp2_with fail
          refine ⟨HT.out, ?_⟩
          try clear hK
          clear hb HR2
          rename World => wd
          try simp only [Act.put, List.setIfInBounds_toArray, List.set_cons_zero, List.set_cons_succ]
          refine os_pure (v := ?_) (by kernel_rfl) ?_ ?_
          rotate_left
          · intro w' hv; clear hv; go_simp; try with_reducible rfl
          try simp only [Act.put, List.setIfInBounds_toArray, List.set_cons_zero, List.set_cons_succ]
          refine os_pure (v := ?_) (by kernel_rfl) ?_ ?_
          rotate_left
          · intro w' hv; clear hv; go_simp; try with_reducible rfl
          try simp only [Act.put, List.setIfInBounds_toArray, List.set_cons_zero, List.set_cons_succ]
          refine os_pure (v := ?_) (by kernel_rfl) ?_ ?_
          rotate_left
          · intro w' hv; have cx := hv.cellv (i := 0) (v := .slice qx nx cx) rfl; clear hv; go_simp; try with_reducible rfl
          try simp only [Act.put, List.setIfInBounds_toArray, List.set_cons_zero, List.set_cons_succ]
          refine os_step (by kernel_rfl) (fun K hK => ?_)
          go_wp2_with fail
          refine (lasts_any _ _ _ _ _ HD.out).mono ?_
          rintro e wn ⟨⟨v, rfl, hR2⟩, hb⟩
          replace HB := Lib.hid (HB.out.trans (hb.mono HB.out.size))
          replace HD := Lib.hid (HD.out.keep hb)
          replace HT := Lib.hid (HT.out.keep hb HT.out.lt)
          replace HR := Lib.hid (HR.out.keep hb)
          rw [HLN.out] at hR2
          have HR2 := Lib.hid hR2
          go_wp2_with fail
          refine ⟨HT.out, ?_⟩
          try clear hK
          clear hb hR2
          rename World => wd
          try simp only [Act.put, List.setIfInBounds_toArray, List.set_cons_zero, List.set_cons_succ]
          refine os_step (by kernel_rfl) (fun K hK => ?_)
          go_wp2_with fail
          refine (same_ok HR2.out HR.out HGO.out).mono ?_
          rintro e wn ⟨rfl, hb⟩
          replace HB := Lib.hid (HB.out.trans (hb.mono HB.out.size))
          replace HD := Lib.hid (HD.out.keep hb)
          replace HT := Lib.hid (HT.out.keep hb HT.out.lt)
          replace HR := Lib.hid (HR.out.keep hb)
          
          go_wp2_with fail
          refine ⟨HT.out, ?_⟩
          try clear hK
          clear hb HR2
          rename World => wd
          try simp only [Act.put, List.setIfInBounds_toArray, List.set_cons_zero, List.set_cons_succ]
          refine os_pure (v := ?_) (by kernel_rfl) ?_ ?_
          rotate_left
          · intro w' hv; clear hv; go_simp; try with_reducible rfl
          try simp only [Act.put, List.setIfInBounds_toArray, List.set_cons_zero, List.set_cons_succ]
          refine os_pure (v := ?_) (by kernel_rfl) ?_ ?_
          rotate_left
          · intro w' hv; clear hv; go_simp; try with_reducible rfl
          try simp only [Act.put, List.setIfInBounds_toArray, List.set_cons_zero, List.set_cons_succ]
          refine os_nil ?_
          go_wp2_with fail
          go_ret
          exact ⟨rfl, HB.out⟩
end Go.Proofs.YtefamkckoikeoaaDoor
namespace Go.Proofs.YtefamkckoikeoaaDoor
open Go.ChangeShapes Go.WideShapes Go.ChangeAt Go.RowKit Go.ChangeMaps
set_option maxRecDepth 100000 in
theorem all9_lifted (os : Os) (started : os.Started) (H : Type) (enc : TypeId × Value → H) :
    ReturnsInHanded {} Tryd.checked os 7 .any (fun w args => (Rows.diskAllSpec.pre enc Tryd.prog Tryd.f7 [] false w args ∧ laidMetH Tryd.prog laidVars w) ∧ sizedMet enc Tryd.prog Tryd.f7 (OpenSpec.ofChange Rows.diskAllSpec) false w args)
      (Rows.diskAllSpec.post enc Tryd.prog Tryd.f7 false true false false) := by
  refine returnsInHanded_of_change_and (C := Tryd.checked) (X := fun w _ => laidMetH Tryd.prog laidVars w) (fun _ _ _ hh h => h.of_heap hh) own started (by kernel_rfl) Tryd.func7
    (ChangeSpec.witness_shaped (enc := enc) (C := Tryd.checked) (os := os) (X := fun w _ => laidMetH Tryd.prog laidVars w) false (World.laidAll Tryd.prog os laidVars) #[.slice none 0 0] 8 (World.laidAll_os _ _ _) (World.shaped_of_ZipB (by kernel_rfl) (by kernel_rfl)) (by kernel_rfl) (by kernel_rfl) (by kernel_rfl) (laid_met os _)) ?_
  intro W base args ds gs before hval0 hW _ hsz0 hL _
  have hval : ∀ (j : Nat) t v, Tryd.f7.params[j]? = some t → args[j]? = some v → Value.okWide Tryd.prog W .any base t v := hval0
  have hW' := hW
  obtain ⟨p, q, hA0, hV, rfl, hfz, hnd⟩ := hW
  have hA : DataW.TrodAll enc Tryd.prog W 0 (fun _ => true) true Tryd.f7.params.toList args.toList ds p := hA0
  have hsz : (DataW.weightsEach Tryd.prog (Tryd.f7.params.toList ++ Rows.diskAllSpec.plain.varTypes Tryd.prog) (ds ++ gs)).all (· ≤ reachBytes) = true := hsz0
  rw [Tryd.params7] at hA hval hsz
  obtain ⟨v0, vs0, d0, ds0, p0, g0, hargs, rfl, rfl, h0, r0⟩ := trodAll_cons hA
  obtain ⟨rfl, rfl, rfl⟩ := trodAll_nil r0
  obtain rfl : args = #[v0] := by cases args; simp_all
  obtain ⟨rfl, rfl⟩ := trodVars_none hV
  have k0 := h0
  have lt0 : ∀ x ∈ p0, x.block < W.heap.size := by obtain ⟨m, hm⟩ := k0; exact DataW.trod_lt m _ _ _ hm
  obtain ⟨l0, q0, c0, rfl, hs0, hB0, hw0⟩ := open_chgs (hval 0 48 v0 rfl rfl) h0
  have z0 : ∀ e ∈ l0, okC e := fun e he => wt_ok (hw0 e he) fun n hn => of_decide_eq_true (List.all_eq_true.1 hsz n (DataW.weights_mem_each (j := 0) rfl rfl n hn))
  clear hA0 hval0
  refine (all9_any l0 q0 c0 z0 W hs0 hB0).mono fun e W' ⟨he, bel⟩ => ?_
  subst he
  exact ⟨_, rfl, _, _, _, [], _, [], hW', trodAll_mk1 (shut_bool Tryd.underlying4 _), (trodAll_cons_mk (Below.trod laidOut (by kernel_rfl) (of_decide_eq_true (by kernel_rfl)) k0 bel lt0) trodAll_mk0), rfl, bel.frame _, fun h => by cases h⟩
theorem all9_row : Rows.DiskAllSaid :=
  OpenClaim.holds_of_wide 7 Tryd.f7 rfl rfl rfl rfl rfl rfl rfl ⟨rfl, rfl, rfl, rfl, rfl⟩ rfl rfl rfl rfl rfl (by kernel_rfl) Tryd.func7 (by kernel_rfl)
    (of_decide_eq_true (by kernel_rfl)) (by unfold Func.isWrapper; first | (rw [if_pos (by decide +kernel)]; kernel_rfl) | (rw [if_neg (by decide +kernel)]; exact ⟨rfl, rfl⟩))
    (fun os started H enc _ => all9_lifted os started H enc)
theorem diskAll_holds : Rows.DiskAllCardSaid :=
  Claim7.holds_tied_plain_at .later [] [.data, .pinned] true Rows.diskAllCard.stood.harness Rows.diskAllCard.stood.looks
    all9_row (fun _ h => by cases h) (by kernel_rfl) (fun _ h => by cases h) diskAll_row_tie rfl ⟨rfl, rfl⟩ (by kernel_rfl) rfl
    (fun f fn hf hfn => by
      obtain rfl : f = 7 := Option.some.inj ((show Tryd.prog.funcNamed "tallyman/tallymanlaw9.DiskAll" = some 7 by kernel_rfl).symm.trans hf) |>.symm
      obtain rfl : fn = Tryd.f7 := (Option.some.inj (Tryd.func7.symm.trans hfn)).symm
      exact ⟨by kernel_rfl, fun j t ht => by
        rw [Tryd.params7] at ht
        have hm : t ∈ [48] := by simpa using Array.mem_of_getElem? ht
        have hall : ([48].all fun u => !Tryd.prog.wantsStandIn u) = true := by kernel_rfl
        exact (show Tryd.prog.wantsStandIn t = false by simpa using List.all_eq_true.1 hall t hm)⟩)
    (by kernel_rfl)
#print axioms diskAll_holds
end Go.Proofs.YtefamkckoikeoaaDoor
