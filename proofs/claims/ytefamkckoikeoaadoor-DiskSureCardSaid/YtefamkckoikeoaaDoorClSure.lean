/- The law DiskSure returns true at every input, and its arguments read as they did. No condition. -/
import Derived.Test.YtefamkckoikeoaaDoorBase5
import Derived.WideMake
import Derived.Test.YtefamkckoikeoaaDoorCards
import Derived.Test.YtefamkckoikeoaaDoorTie
import Derived.ShutString
import Derived.ChangeOld
import Derived.SevenTiedAt
/- The law DiskAll returns true, whatever the changes. Conditions: strings of at most 2^61 bytes, bytes at most 2^47. -/
namespace Go.Proofs.YtefamkckoikeoaaDoor
open Go.RowKit
theorem tear_all (c : Chg) : tearC c (-1) = c := by unfold tearC; rw [if_neg (by omega)]
theorem keptF_all {α : Type} (K : List Int) : ∀ (A : List α) (i : Nat), (∀ j, j < A.length → ((i + j : Nat) : Int) ∈ K) → keptF K i A = A
  | [], _, _ => rfl
  | a :: A, i, h => by
    show (if (i : Int) ∈ K then a :: keptF K (i + 1) A else keptF K (i + 1) A) = a :: A
    rw [if_pos (by have := h 0 (by simp); simpa using this), keptF_all K A (i + 1) fun j hj => by have := h (j + 1) (by simpa using hj); rwa [show i + 1 + j = i + (j + 1) by omega]]
def rangeI (n : Nat) : List Int := (List.range n).map fun (k : Nat) => (k : Int)
theorem rangeI_add (n : Nat) : rangeI (n + 1) = rangeI n ++ [(n : Int)] := by unfold rangeI; rw [List.range_succ, List.map_append]; rfl
theorem rangeI_len (n : Nat) : (rangeI n).length = n := by unfold rangeI; simp
theorem wp_addI {ops : Array Oper} {rest : List Oper} {o : Oper} {a : Act} {Q : Exit → Act → World → Prop}
    (hgd : o.guard = none) (sl x : Operand) (ho : o.op = .call { callee := .builtin .append, args := #[sl, x], argTypes := #[51, 51] }) {w : World} {base : Nat} {v : Value} {K : List Int} (R : w.ownsRow base 3 1 v K.length (K.map (Value.int .i64))) (hbase : base ≤ w.heap.size)
    (hs : a.eval sl = v) (g : Nat) (e : Int) (hx : a.eval x = .slice (some ⟨g, 0, none⟩) 1 1) (hc : Has w g 3 [.int .i64 e]) (hn : K.length ≤ 1000000)
    (h : ∀ v' w', w'.ownsRow base 3 1 v' (K ++ [e]).length ((K ++ [e]).map (Value.int .i64)) → Below base w w' → wpList Tryd.prog ops Q rest (a.put o.dst v') w') : wpList Tryd.prog ops Q (o :: rest) a w := by
  obtain ⟨i0, hi, hz0, hz1, hz2⟩ := info_parts int_info
  refine wpList_append_own _ hgd sl x 51 ho base 3 i0 _ 1 8 Tryd.underlying51 hi hz0 hz1 hz2 rfl (by decide) v K.length (K.map (Value.int .i64)) hs R ⟨g, 0, none⟩ 1 1 [.int .i64 e] hx rfl ?_ ?_ (by unfold maxLen; omega) (by omega) hbase
    fun v' w' ho' hg' _ => h v' w' (by rw [List.map_append, List.length_append]; exact ho') ((Below.refl base w).grown hg' hbase (fun k hk => own_baseN R k hk))
  · intro j u hj
    have e2 : (Addr.add ⟨g, 0, none⟩ j) = ⟨g, j, none⟩ := by unfold Addr.add; split <;> simp_all
    rw [e2]; exact hc.cellv hj
  · intro u hu
    rw [List.mem_singleton.1 hu]; rfl
theorem same_ok {w : World} {v u : Value} {X : List Ent} (h : RdT w v X) (h' : RdT w u X) (hg : goodP X = true) : Calls Tryd.prog 15 #[.agg #[v], .agg #[u]] w fun e w2 => e = .returned (.bool true) ∧ Below w.heap.size w w2 := by
  obtain ⟨C, q, c, rfl, _, h2, _, h4, h5, h6, h7, _, h8, h9, h10⟩ := rdt_parts h hg
  obtain ⟨D, p, d, rfl, _, k2, _, k4, k5, k6, k7, _, k8, k9, k10⟩ := rdt_parts h' hg
  have := tsame_any C D q p c d (by omega) (by omega) h2 k2 (by omega) (by omega) (fun e he => by have := h10 e he; omega) (fun e he => by have := k10 e he; omega) w h4 k4 h5 k5
  have e1 : sameT C D = true := by
    unfold sameT
    rw [h6, k6, sim_like (h7.trans k7.symm)]; rfl
  rwa [e1] at this
theorem tree_own {w : World} {g n : Nat} {B : Option Nat} {S : DS} {k : Nat} {l : List Value} (hD : DiskAt w g n B S) (h : Has w k 25 l) : ¬ Own g B k := fun hk => by
  obtain ⟨_, _, _, vn, vl, vw, vk, hh, _, _, e, ⟨L, _, h8, _, _⟩, _⟩ := hD
  rcases hk with rfl | hk
  · exact (hh.apart h (by decide)) rfl
  · have hb : vw.ownBlock = some k := e.symm.trans hk.symm
    rcases h8.2 with ⟨rfl, _⟩ | ⟨g', cap, cur, rfl, _, hg', _⟩
    · cases hb
    · have hk' : g' = k := by simpa [Value.ownBlock] using hb
      subst hk'
      have h2 : Has w g' 47 cur.toList := by unfold Has; simpa using hg'
      exact (h2.apart h (by decide)) rfl
/-- A disk that holds what the law's loop asks. -/
def AllI (w : World) (g : Nat) (i : Nat) (B : Option Nat) (S : DS) : Prop := DiskAt w g (g + 1) B S ∧ Sm S ∧ S.waits.length ≤ i ∧ S.lasts = [] ∧ S.now = foldC [] S.waits (-1) ∧ Lit S ∧ 0 ≤ S.count ∧ S.count ≤ i
theorem all_do {S : DS} {c : Chg} {i : Nat} (h1 : S.waits.length ≤ i) (h2 : S.lasts = []) (h3 : S.now = foldC [] S.waits (-1)) (h4 : Lit S) (h5 : 0 ≤ S.count) (h6 : S.count ≤ i) :
    (doS S c).1.waits.length ≤ i + 1 ∧ (doS S c).1.lasts = [] ∧ (doS S c).1.now = foldC [] (doS S c).1.waits (-1) ∧ Lit (doS S c).1 ∧ 0 ≤ (doS S c).1.count ∧ (doS S c).1.count ≤ ((i + 1 : Nat) : Int) := by
  refine ⟨?_, ?_, ?_, do_lit2 h4 c, ?_⟩ <;> rcases do_lit h4 c with ⟨h, _⟩ | ⟨_, _, h⟩ <;> rw [h]
  · omega
  · simp only [List.length_append, List.length_singleton]; omega
  · exact h2
  · exact h2
  · exact h3
  · show (chE S.now c).1 = foldC [] (S.waits ++ [c]) (-1)
    rw [foldC_add, tear_all, ← h3]
  · exact ⟨h5, by omega⟩
  · show 0 ≤ S.count + 1 ∧ S.count + 1 ≤ ((i + 1 : Nat) : Int)
    omega
noncomputable def chkAA : Array Oper := regOf Tryd.f7.body 21
set_option maxRecDepth 100000 in
theorem chkAA_ok : otcB [.inl (0, true), .inl (2, true), .inl (1, false), .inl (3, false), .inl (4, true), .inl (5, true), .inl (7, true), .inl (6, false), .inl (8, false), .inl (9, true), .inl (10, true)] chkAA = true := by kernel_rfl
set_option maxHeartbeats 16000000 in
set_option maxRecDepth 100000 in
theorem all9_any (L : List ActE) (q : Option Addr) (c : Nat) (hz : ∀ e ∈ L, okC e) (w : World) (hs : Sees w w.heap.size q (rowA L)) (hB : ∀ e ∈ L, Bs w e.2.2.2.1 e.2.2.2.2) :
    Calls Tryd.prog 7 #[.slice q L.length c] w fun e w' => e = .returned (.bool true) ∧ Below w.heap.size w w' := by
  have HS := Lib.hid hs
  have HBL := Lib.hid hB
  have HZ := Lib.hid hz
  clear hs hB hz
  go_enter Tryd.func7, Tryd.ntmps7
  go_wp2_with fail
  refine (awake9_any _).mono ?_
  rintro e w0 ⟨rfl, hb⟩
  have HB := Lib.hid hb
  clear hb
  by_cases hl : 30 < L.length
  · have kl : (30 : Int) < (L.length : Int) := by omega
    go_wp2_with fail
    go_ret
    exact ⟨rfl, HB.out⟩
  have kl : ¬ (30 : Int) < (L.length : Int) := by omega
  go_wp2_with fail
  refine (new_any [] none 0 16384 (Nat.le_refl _) (by simp) (fun _ => rfl) (by simp [bytesT]) (fun _ h => by cases h) w0 (Sees.nil _ _ _) (fun _ h => by cases h)).mono ?_
  rintro e w1 ⟨hn, hb⟩
  have HLE := Lib.hid HB.out.size
  replace HB := Lib.hid (HB.out.trans (hb.mono HB.out.size))
  obtain ⟨g, rfl, hg, hd⟩ := newP_ok hn (by decide) (by decide)
  have HG : Hid (w.heap.size ≤ g) := Lib.hid (Nat.le_trans HLE.out hg)
  have HI : Hid (AllI w1 g 0 none (newS [] 16384)) := Lib.hid ⟨hd, new_sm _ _, Nat.le_refl _, rfl, rfl, ⟨rfl, rfl⟩, Int.le_refl _, Int.le_refl _⟩
  clear hn hb hg hd
  generalize newS [] 16384 = S0 at *
  go_wp2_with fail
  go_loopw [6] (fun vi wr => ∃ (i : Nat) (B : Option Nat) (S : DS), i ≤ L.length ∧ vi = .int .i64 i ∧ AllI wr g i B S ∧ Below w.heap.size w wr) (fun vi _ => L.length - (intOf vi).toNat)
  case atStart => exact ⟨0, _, _, by omega, rfl, HI.out, HB.out⟩
  case round =>
    rename World => wr
    clear HB HI
    obtain ⟨i, B, S, hi, rfl, hI, hB⟩ := hrel
    have HB := Lib.hid hB
    obtain ⟨hD, hP⟩ := hI
    have HD := Lib.hid hD
    have HP := Lib.hid hP
    clear hB hD hP
    by_cases hlt : i < L.length
    · have kk : (i : Int) < (L.length : Int) := by omega
      obtain ⟨a, rfl, ha, hc⟩ := HS.out.act hlt
      obtain ⟨c0, c1, c2, c3⟩ := hc wr HB.out
      obtain ⟨qb, cb, hv, hcb, hqb, hsb⟩ := (HBL.out L[i] (List.getElem_mem hlt)).keep HB.out
      have hok := HZ.out L[i] (List.getElem_mem hlt)
      obtain ⟨e, he⟩ : ∃ e, L[i] = e := ⟨_, rfl⟩
      simp only [he] at c0 c1 c2 c3 hv hcb hsb hok
      obtain ⟨op, p, t, bv, bb⟩ := e
      have hv' : bv = .slice qb (List.length bb) cb := hv
      subst hv'
      simp only [] at c0 c1 c2 c3 hcb hsb hok
      have HOK : Hid (p.size < 2305843009213693952 ∧ t.size < 2305843009213693952 ∧ bb.length ≤ 140737488355328) := Lib.hid hok
      have hCNT : -9223372036854775808 ≤ S.count ∧ S.count < 9223372036854775807 := by have := HP.out.2.2.2.2.2; omega
      have HDO := Lib.hid (do_any g (g + 1) B S op p t bb qb cb HOK.out.1 HOK.out.2.1 HOK.out.2.2 hcb hqb HP.out.1 (by have := HP.out.2.1; omega) hCNT wr HD.out hsb)
      clear hc ha hv hcb hqb hsb hok he hCNT
      by_cases hx : 2100 < bb.length
      · have k1 : (2100 : Int) < (bb.length : Int) := by omega
        go_wp2_with fail
        go_ret
        exact ⟨rfl, HB.out⟩
      have k1 : ¬ (2100 : Int) < (bb.length : Int) := by omega
      go_wp2_with fail
      clear c0 c1 c2 c3
      refine HDO.out.mono ?_
      rintro e w3 ⟨rfl, ha⟩
      replace HB := Lib.hid (HB.out.trans (After.below HD.out ha HG.out))
      obtain ⟨_, hD2, _, _⟩ := ha
      replace HD := Lib.hid hD2
      clear hD2
      clear HDO
      have HN : Hid (Sm (doS S (op, p, t, bb)).1 ∧ _) := Lib.hid (And.intro (do_sm HP.out.1 (op, p, t, bb) HOK.out (by have := HP.out.2.1; omega)) (all_do (c := (op, p, t, bb)) HP.out.2.1 HP.out.2.2.1 HP.out.2.2.2.1 HP.out.2.2.2.2.1 HP.out.2.2.2.2.2.1 HP.out.2.2.2.2.2.2))
      have kwi : IntKind.i64.wrap ((i : Int) + 1) = (i : Int) + 1 := by rw [IntWalk.i64_in _ (by omega)]
      generalize doS S (op, p, t, bb) = R at *
      obtain ⟨S2, E⟩ := R
      simp only [] at HD HN
      go_wp2_with fail
      go_roundw
      case rel => exact ⟨i + 1, _, _, by omega, by go_num, ⟨HD.out, HN.out⟩, HB.out⟩
      case measure => simp [intOf]; omega
    · have hil : i = L.length := by omega
      subst hil
      have k0 : ¬ (L.length : Int) < (L.length : Int) := by omega
      clear hlt
      go_wp2_with fail
      refine (now_any _ _ _ _ _ HD.out).mono ?_
      rintro e w4 ⟨⟨v, rfl, hR⟩, hb⟩
      replace HB := Lib.hid (HB.out.trans (hb.mono HB.out.size))
      replace HD := Lib.hid (HD.out.keep hb)
      obtain ⟨qx, nx, cx, rfl⟩ := hR.slice
      have hb4 := (Below.refl w4.heap.size w4).alloc (Nat.le_refl _) (.cells #[.slice qx nx cx] 25)
      have HT : Hid (Has (w4.alloc (.cells #[.slice qx nx cx] 25)) w4.heap.size 25 [.slice qx nx cx]) := Lib.hid (Has.made w4 _ _)
      have HR := Lib.hid (hR.keep hb4)
      replace HB := Lib.hid (HB.out.trans (hb4.mono HB.out.size))
      replace HD := Lib.hid (HD.out.keep hb4)
      clear hb hb4 hR
      go_wp2_with fail
      generalize w4.alloc (.cells #[.slice qx nx cx] 25) = wk at *
      generalize w4.heap.size = GT at *
      have HNIL := Lib.hid (World.ownsRow_nil wk wk.heap.size 3 1)
      have HWL : Hid (S.waits.length ≤ 30) := Lib.hid (by have := HP.out.2.1; omega)
      obtain ⟨m, hm⟩ : ∃ m, m = S.waits.length := ⟨_, rfl⟩
      have HM := Lib.hid hm
      clear hm
      go_loopw [5, 8] (fun v vi wq => ∃ j : Nat, j ≤ m ∧ vi = .int .i64 j ∧ wq.ownsRow wk.heap.size 3 1 v (rangeI j).length ((rangeI j).map (Value.int .i64)) ∧ Below wk.heap.size wk wq) (fun _ vi _ => m - (intOf vi).toNat)
      case atStart => exact ⟨0, by omega, rfl, HNIL.out, Below.refl _ _⟩
      case round =>
        rename World => wq
        obtain ⟨j, hj, rfl, hrow, hBq⟩ := hrel
        have HROW := Lib.hid hrow
        have HBQ := Lib.hid hBq
        clear hrow hBq HNIL
        go_wp2_with fail
        refine (waits_any g (g + 1) B S HP.out.1 wq (HD.out.keep HBQ.out)).mono ?_
        rintro e w5 ⟨⟨v, rfl, ⟨LW, qw, cw, hLW, rfl, _, _⟩⟩, hb⟩
        have hlw : LW.length = m := by rw [HM.out, ← hLW, List.length_map]
        rw [hlw]
        have hbsz := HBQ.out.size
        replace HBQ := Lib.hid (HBQ.out.trans (hb.mono hbsz))
        replace HROW := Lib.hid (own_belowN HROW.out hb)
        have HSZ5 : Hid (wk.heap.size ≤ w5.heap.size) := Lib.hid HBQ.out.size
        clear hb hLW hlw hbsz
        by_cases hlt2 : j < m
        · have kk2 : (j : Int) < (m : Int) := by omega
          have kwj : IntKind.i64.wrap ((j : Int) + 1) = (j : Int) + 1 := by rw [IntWalk.i64_in _ (by have := HWL.out; have := HM.out; omega)]
          have hb5 := (Below.refl w5.heap.size w5).alloc (Nat.le_refl _) (.cells #[.int .i64 (j : Int)] 3)
          have HB6 : Hid (Below wk.heap.size wk (w5.alloc (.cells #[.int .i64 (j : Int)] 3))) := Lib.hid (HBQ.out.trans (hb5.mono HSZ5.out))
          have HR6 := Lib.hid (own_belowN HROW.out hb5)
          clear hb5
          go_wp2_with (refine wp_addI rfl (.tmp 49) (.tmp 51) rfl (base := wk.heap.size) HR6.out HB6.out.size rfl w5.heap.size (j : Int) rfl (Has.made w5 _ _) (by rw [rangeI_len]; have := HWL.out; have := HM.out; omega) ?_; intro v3 w6 ho3 hb3; have HROW2 := Lib.hid ho3; have HB7 := Lib.hid (HB6.out.trans hb3); clear ho3 hb3 HROW)
          go_roundw
          case rel => exact ⟨j + 1, by omega, by go_num, by rw [rangeI_add]; exact HROW2.out, HB7.out⟩
          case measure => simp [intOf]; omega
        · have hjm : j = m := by omega
          subst hjm
          have k0 : ¬ (j : Int) < (j : Int) := by omega
          replace HD := Lib.hid (HD.out.keep HBQ.out)
          replace HB := Lib.hid (HB.out.trans (HBQ.out.mono HB.out.size))
          replace HT := Lib.hid (HT.out.keep HBQ.out HT.out.lt)
          replace HR := Lib.hid (HR.out.keep HBQ.out)
          have HSK : Hid (∃ qk ck, u5 = .slice qk (rangeI j).length ck ∧ Sees w5 w5.heap.size qk ((rangeI j).map (Value.int .i64))) := Lib.hid (by
            rcases HROW.out.2 with ⟨h1, h0⟩ | ⟨g', cap, cur, h1, hb', hg', h2, h3, h4, h5⟩
            · refine ⟨none, 0, by rw [h1, h0], ?_⟩
              rw [List.eq_nil_of_length_eq_zero h0]; exact Sees.nil _ _ _
            · subst h1
              exact ⟨_, cap, rfl, fun _ => ⟨_, rfl, (Array.getElem?_eq_some_iff.1 hg').1, World.ownsRow.cells HROW.out (g := g') rfl⟩⟩)
          obtain ⟨qk, ck, rfl, hsk⟩ := HSK.out
          have HSE := Lib.hid hsk
          have HFIN : Hid ((crashS S (rangeI j) (-1)).now = S.now ∧ (crashS S (rangeI j) (-1)).lasts = S.now) := Lib.hid (by
            obtain ⟨_, _, h2, h3, h4, _⟩ := HP.out
            have hk : keptF (rangeI j) 0 S.waits = S.waits := keptF_all _ _ _ fun x hx => by
              unfold rangeI
              refine List.mem_map.2 ⟨x, List.mem_range.2 (by have := HM.out; omega), by simp⟩
            unfold crashS
            rw [if_neg (by rw [h4.1]; simp), hk, h2, ← h3]
            exact ⟨rfl, rfl⟩)
          have HGO := Lib.hid HD.out.2.2.1.now
          clear hlt2 HSK hsk HROW HBQ HSZ5
          go_wp2_with fail
          refine (crash_any g (g + 1) B S (rangeI j) qk ck (-1) (by rw [rangeI_len]; have := HWL.out; have := HM.out; omega) HP.out.1 w5 HD.out HSE.out).mono ?_
          rintro e w7 ⟨rfl, ha⟩
          obtain ⟨B2, hD2, hx, hf⟩ := id ha
          have hbx := HD.out.boxy
          have hbB : ∀ k, k < w5.heap.size → Own g B k → Boxy w5 k := fun k _ hk => by
            rcases hk with rfl | hk
            · exact hbx
            · exact (HD.out.boxyB hk.symm).1
          replace HR := Lib.hid (HR.out.fr hf hbB)
          have HTF : Hid (¬ Own g B GT) := Lib.hid (tree_own HD.out HT.out)
          replace HT := Lib.hid (hf.has HTF.out HT.out)
          replace HB := Lib.hid (HB.out.trans (After.below HD.out ha HG.out))
          replace HD := Lib.hid hD2
          clear hD2 hx hf ha hbx hbB HSE HTF
          rw [← HFIN.out.1] at HR HGO
          have HLN : Hid ((crashS S (rangeI j) (-1)).lasts = (crashS S (rangeI j) (-1)).now) := Lib.hid (HFIN.out.2.trans HFIN.out.1.symm)
          generalize crashS S (rangeI j) (-1) = T at *
          go_wp2_with fail
          refine wp_region_os [.inl (0, true), .inl (2, true), .inl (1, false), .inl (3, false), .inl (4, true), .inl (5, true), .inl (7, true), .inl (6, false), .inl (8, false), .inl (9, true), .inl (10, true)] _ chkAA_ok rfl (by kernel_rfl) (by kernel_rfl) (fun w' => Has w' GT 25 [.slice qx nx cx]) HT.out.drew ?_
          have hbd := (Below.refl w7.heap.size w7).drew
          replace HR := Lib.hid (HR.out.keep hbd)
          replace HD := Lib.hid (HD.out.keep hbd)
          replace HB := Lib.hid (HB.out.trans (hbd.mono HB.out.size))
          replace HT := Lib.hid (HT.out.keep hbd HT.out.lt)
          clear hbd
          generalize w7.drew = wd at *
          simp only [pickOt, List.getElem?_cons_zero, List.getElem?_cons_succ]
          refine os_pure (v := ?_) (by kernel_rfl) ?_ ?_
          rotate_left
          · intro w' hv; clear hv; go_simp; try with_reducible rfl
          try simp only [Act.put, List.setIfInBounds_toArray, List.set_cons_zero, List.set_cons_succ]
          refine os_pure (v := ?_) (by kernel_rfl) ?_ ?_
          rotate_left
          · intro w' hv; have cx := hv.cellv (i := 0) (v := .slice qx nx cx) rfl; clear hv; go_simp; try with_reducible rfl
          try simp only [Act.put, List.setIfInBounds_toArray, List.set_cons_zero, List.set_cons_succ]
          refine os_step (by kernel_rfl) (fun K hK => ?_)
          go_wp2_with fail
          refine (now_any _ _ _ _ _ HD.out).mono ?_
          rintro e wn ⟨⟨v, rfl, hR2⟩, hb⟩
          replace HB := Lib.hid (HB.out.trans (hb.mono HB.out.size))
          replace HD := Lib.hid (HD.out.keep hb)
          replace HT := Lib.hid (HT.out.keep hb HT.out.lt)
          replace HR := Lib.hid (HR.out.keep hb)
          have HR2 := Lib.hid hR2
          go_wp2_with fail
          refine ⟨HT.out, ?_⟩
          try clear hK
          clear hb hR2
          rename World => wd
          try simp only [Act.put, List.setIfInBounds_toArray, List.set_cons_zero, List.set_cons_succ]
          refine os_step (by kernel_rfl) (fun K hK => ?_)
          go_wp2_with fail
          refine (same_ok HR2.out HR.out HGO.out).mono ?_
          rintro e wn ⟨rfl, hb⟩
          replace HB := Lib.hid (HB.out.trans (hb.mono HB.out.size))
          replace HD := Lib.hid (HD.out.keep hb)
          replace HT := Lib.hid (HT.out.keep hb HT.out.lt)
          replace HR := Lib.hid (HR.out.keep hb)
          
          go_wp2_with fail
          refine ⟨HT.out, ?_⟩
          try clear hK
          clear hb HR2
          rename World => wd
          try simp only [Act.put, List.setIfInBounds_toArray, List.set_cons_zero, List.set_cons_succ]
          refine os_pure (v := ?_) (by kernel_rfl) ?_ ?_
          rotate_left
          · intro w' hv; clear hv; go_simp; try with_reducible rfl
          try simp only [Act.put, List.setIfInBounds_toArray, List.set_cons_zero, List.set_cons_succ]
          refine os_pure (v := ?_) (by kernel_rfl) ?_ ?_
          rotate_left
          · intro w' hv; clear hv; go_simp; try with_reducible rfl
          try simp only [Act.put, List.setIfInBounds_toArray, List.set_cons_zero, List.set_cons_succ]
          refine os_pure (v := ?_) (by kernel_rfl) ?_ ?_
          rotate_left
          · intro w' hv; have cx := hv.cellv (i := 0) (v := .slice qx nx cx) rfl; clear hv; go_simp; try with_reducible rfl
          try simp only [Act.put, List.setIfInBounds_toArray, List.set_cons_zero, List.set_cons_succ]
          refine os_step (by kernel_rfl) (fun K hK => ?_)
          go_wp2_with fail
          refine (lasts_any _ _ _ _ _ HD.out).mono ?_
          rintro e wn ⟨⟨v, rfl, hR2⟩, hb⟩
          replace HB := Lib.hid (HB.out.trans (hb.mono HB.out.size))
          replace HD := Lib.hid (HD.out.keep hb)
          replace HT := Lib.hid (HT.out.keep hb HT.out.lt)
          replace HR := Lib.hid (HR.out.keep hb)
          rw [HLN.out] at hR2
          have HR2 := Lib.hid hR2
          go_wp2_with fail
          refine ⟨HT.out, ?_⟩
          try clear hK
          clear hb hR2
          rename World => wd
          try simp only [Act.put, List.setIfInBounds_toArray, List.set_cons_zero, List.set_cons_succ]
          refine os_step (by kernel_rfl) (fun K hK => ?_)
          go_wp2_with fail
          refine (same_ok HR2.out HR.out HGO.out).mono ?_
          rintro e wn ⟨rfl, hb⟩
          replace HB := Lib.hid (HB.out.trans (hb.mono HB.out.size))
          replace HD := Lib.hid (HD.out.keep hb)
          replace HT := Lib.hid (HT.out.keep hb HT.out.lt)
          replace HR := Lib.hid (HR.out.keep hb)
          
          go_wp2_with fail
          refine ⟨HT.out, ?_⟩
          try clear hK
          clear hb HR2
          rename World => wd
          try simp only [Act.put, List.setIfInBounds_toArray, List.set_cons_zero, List.set_cons_succ]
          refine os_pure (v := ?_) (by kernel_rfl) ?_ ?_
          rotate_left
          · intro w' hv; clear hv; go_simp; try with_reducible rfl
          try simp only [Act.put, List.setIfInBounds_toArray, List.set_cons_zero, List.set_cons_succ]
          refine os_pure (v := ?_) (by kernel_rfl) ?_ ?_
          rotate_left
          · intro w' hv; clear hv; go_simp; try with_reducible rfl
          try simp only [Act.put, List.setIfInBounds_toArray, List.set_cons_zero, List.set_cons_succ]
          refine os_nil ?_
          go_wp2_with fail
          go_ret
          exact ⟨rfl, HB.out⟩
end Go.Proofs.YtefamkckoikeoaaDoor
/- What the law DiskSure wants: paths that no change names stay as they were; a map of texts; a map's block beside a disk. No condition. -/
namespace Go.Proofs.YtefamkckoikeoaaDoor
open Go.RowKit
/-- The change does not name this path. -/
def Un (c : Chg) (p : Tx) : Prop := p ≠ c.2.1.data.toList ∧ (c.1 = 4 → p ≠ c.2.2.1.data.toList)
theorem putL_iff {C : List Ent} {E e : Ent} (hne : e.pa ≠ E.pa) : e ∈ putL C E ↔ e ∈ C := by
  constructor
  · intro h
    unfold putL at h
    rcases List.mem_append.1 h with h | h
    · exact List.mem_of_mem_take h
    · rcases List.mem_cons.1 h with h | h
      · exact absurd (by rw [h]) hne
      · exact List.mem_of_mem_drop h
  · exact fun h => putL_keeps h hne
theorem putP_mem (C : List Ent) (p : ByteArray) (b : List (BitVec 8)) (v : Value) {e : Ent} (he : e.pa ≠ p.data.toList) : e ∈ (putP C p b v).1 ↔ e ∈ C := by
  unfold putP
  split
  · exact Iff.rfl
  · split
    · exact Iff.rfl
    · split
      · exact Iff.rfl
      · split
        · exact putL_iff (E := fileE p v b) he
        · exact Iff.rfl
theorem puttP_mem (C : List Ent) (p : ByteArray) (b : List (BitVec 8)) (v : Value) {e : Ent} (he : e.pa ≠ p.data.toList) : e ∈ (puttP C p b v).1 ↔ e ∈ C := by
  unfold puttP
  split
  · exact Iff.rfl
  · exact putP_mem C p b v he
theorem makeP_mem (C : List Ent) (p : ByteArray) {e : Ent} (he : e.pa ≠ p.data.toList) : e ∈ (makeP C p).1 ↔ e ∈ C := by
  unfold makeP
  split
  · exact Iff.rfl
  · split
    · exact Iff.rfl
    · split
      · exact Iff.rfl
      · split
        · exact putL_iff (E := dirE p) he
        · exact Iff.rfl
theorem outI_iff {C : List Ent} {i : Nat} (hi : i < C.length) {e : Ent} (hne : e.pa ≠ C[i].pa) : e ∈ outI C i ↔ e ∈ C :=
  ⟨fun h => outI_mem h, fun h => outI_keeps hi h fun k => hne (by rw [k])⟩
theorem removeP_mem (C : List Ent) (p : ByteArray) {e : Ent} (he : e.pa ≠ p.data.toList) : e ∈ (removeP C p).1 ↔ e ∈ C := by
  unfold removeP
  split
  · exact Iff.rfl
  · rename_i h0
    split
    · exact Iff.rfl
    · obtain ⟨_, _, hh, hi, _⟩ := find_at (show (findP C p).2 = 0 by simpa using h0)
      obtain ⟨hl, hat⟩ := has_at hh
      rw [hi]
      exact outI_iff hl (by rw [hat]; exact he)
theorem moveP_mem (C : List Ent) (f t : ByteArray) (v : Value) {e : Ent} (he : e.pa ≠ f.data.toList) (ht : e.pa ≠ t.data.toList) : e ∈ (moveP C f t v).1 ↔ e ∈ C := by
  unfold moveP
  split
  · exact Iff.rfl
  · split
    · exact Iff.rfl
    · rename_i h1
      split
      · exact Iff.rfl
      · split
        · exact Iff.rfl
        · split
          · exact Iff.rfl
          · obtain ⟨hl, hat⟩ := has_at (show hasT C f.data.toList = true by simpa using h1)
            exact (putP_mem _ _ _ _ ht).trans (outI_iff hl (by rw [hat]; exact he))
theorem chP_mem (C : List Ent) (c : Chg) (v : Value) {e : Ent} (h : Un c e.pa) : e ∈ (chP C c v).1 ↔ e ∈ C := by
  unfold chP
  split
  · exact puttP_mem _ _ _ _ h.1
  · split
    · exact makeP_mem _ _ h.1
    · split
      · exact removeP_mem _ _ h.1
      · split
        · rename_i h4; exact moveP_mem _ _ _ _ h.1 (h.2 h4)
        · exact Iff.rfl
theorem era1_of {X : List Ent} (hX : era X = X) {e : Ent} (he : e ∈ X) : era1 e = e := by
  have h : e ∈ era X := by rw [hX]; exact he
  obtain ⟨y, _, rfl⟩ := List.mem_map.1 h
  rfl
theorem chE_mem {X : List Ent} (hX : era X = X) (c : Chg) {e : Ent} (h : Un c e.pa) : e ∈ (chE X c).1 ↔ e ∈ X := by
  constructor
  · intro he
    obtain ⟨y, hy, rfl⟩ := List.mem_map.1 (show e ∈ era (chP X c undef).1 from he)
    have h2 := (chP_mem X c undef (e := y) h).1 hy
    rw [era1_of hX h2]; exact h2
  · intro he
    have h2 := (chP_mem X c undef h).2 he
    have h3 : era1 e ∈ era (chP X c undef).1 := List.mem_map_of_mem h2
    rw [era1_of hX he] at h3
    exact h3
theorem tear_un {c : Chg} {torn : Int} {p : Tx} (h : Un c p) : Un (tearC c torn) p := by unfold tearC; split <;> exact h
theorem foldC_mem {torn : Int} {e : Ent} : ∀ (W : List Chg) {X : List Ent}, era X = X → (∀ c ∈ W, Un c e.pa) → (e ∈ foldC X W torn ↔ e ∈ X)
  | [], _, _, _ => Iff.rfl
  | c :: W, X, hX, h => by
    show e ∈ foldC (chE X (tearC c torn)).1 W torn ↔ _
    rw [foldC_mem W (chE_era _ _) fun d hd => h d (List.mem_cons_of_mem _ hd)]
    exact chE_mem hX _ (tear_un (h c (List.mem_cons_self ..)))
/-- What stands there is found. -/
theorem find_mem {C : List Ent} (hg : goodP C = true) {e : Ent} (he : e ∈ C) : (findP C e.1).2 = 0 ∧ ∃ h : (findP C e.1).1 < C.length, C[(findP C e.1).1] = e := by
  obtain ⟨_, hA, h3, _⟩ := (goodP_iff C).1 hg
  obtain ⟨i, hi, rfl⟩ := List.getElem_of_mem he
  obtain ⟨hh, hp⟩ := pos_of hA hi
  have ha : askT C [C[i].1] = 0 := ask_ok hg fun p hp => by rw [List.mem_singleton.1 hp]; exact okEnt_path (h3 _ (List.getElem_mem _))
  have hf : findP C C[i].1 = (i, 0) := by
    unfold findP
    rw [if_neg (by rw [ha]; simp)]
    rw [if_pos (show hasT C C[i].1.data.toList = true from hh)]
    rw [show posT C C[i].1.data.toList = i from hp]
  rw [hf]
  exact ⟨rfl, hi, rfl⟩
/-- A map of texts, each to true. -/
def Named (w : World) (r : Nat) (N : List ByteArray) : Prop := ∃ es clock, w.heap[r]? = some (.map es clock) ∧ (∀ e ∈ es.toList, e.val = .bool true ∧ ∃ s, e.key = .string s) ∧ ∀ s, (∃ e ∈ es.toList, e.key = .string s) ↔ s ∈ N
theorem find_named (s : ByteArray) : ∀ (l : List MapEntry) (i : Nat), (∀ e ∈ l, e.val = .bool true ∧ ∃ s, e.key = .string s) →
    ((∃ j, i ≤ j ∧ ∃ h : j - i < l.length, l[j - i].key = .string s ∧ Instr.findNow .string (.string s) l i = some (some (j, .bool true))) ∨ (Instr.findNow .string (.string s) l i = some none ∧ ¬ ∃ e ∈ l, e.key = .string s))
  | [], _, _ => .inr ⟨rfl, fun ⟨_, h, _⟩ => by cases h⟩
  | e :: l, i, h => by
    obtain ⟨hv, t, ht⟩ := h e (List.mem_cons_self ..)
    have hs : Instr.sameNow .string (.string s) e.key = some (s == t) := by rw [ht]; rfl
    by_cases hst : s = t
    · subst hst
      refine .inl ⟨i, Nat.le_refl _, by simp, by simpa using ht, ?_⟩
      have hb : (s == s) = true := (MapKept.bytes_beq s s).2 rfl
      simp only [Instr.findNow, hs, hb, hv]
    · have hb : (s == t) = false := by
        cases hq : (s == t) with
        | false => rfl
        | true => exact absurd ((MapKept.bytes_beq s t).1 hq) hst
      have hf : Instr.findNow .string (.string s) (e :: l) i = Instr.findNow .string (.string s) l (i + 1) := by
        simp only [Instr.findNow, hs, hb]
      rcases find_named s l (i + 1) fun x hx => h x (List.mem_cons_of_mem _ hx) with ⟨j, hj, hl, hk, hn⟩ | ⟨hn, hno⟩
      · refine .inl ⟨j, by omega, by simp; omega, ?_, by rw [hf]; exact hn⟩
        have e1 : j - i = (j - (i + 1)) + 1 := by omega
        simp only [e1, List.getElem_cons_succ]
        exact hk
      · refine .inr ⟨by rw [hf]; exact hn, fun ⟨x, hx, hxk⟩ => ?_⟩
        rcases List.mem_cons.1 hx with rfl | hx
        · rw [ht] at hxk; exact hst (by injection hxk with h; exact h.symm)
        · exact hno ⟨x, hx, hxk⟩
theorem lookup_named {w : World} {r : Nat} {N : List ByteArray} (h : Named w r N) (s : ByteArray) :
    ∃ b, (Instr.lookup 73 (.map (some r)) (.string s) false).run Tryd.prog w = .ok (.bool b) w ∧ (b = true ↔ s ∈ N) := by
  obtain ⟨es, clock, hb, h1, h2⟩ := h
  have hc : ∀ e, (Instr.checkKey e 10000 9 (.string s)).run Tryd.prog w = .ok () w := fun e => MapKept.run_checkKey (k := .string s) Tryd.underlying9 (by simp [MapKept.IsKey]) e 9999
  have hz : (zeroValue 4).run Tryd.prog w = .ok (.bool false) w := by kernel_rfl
  rcases find_named s es.toList 0 h1 with ⟨j, _, hl, hk, hf⟩ | ⟨hf, hno⟩
  · refine ⟨true, ?_, fun _ => (h2 s).1 ⟨_, List.getElem_mem hl, hk⟩, fun _ => rfl⟩
    simp [Instr.lookup, run_underlying Tryd.underlying73, MapKept.run_getObj_map hb, hc, MapKept.run_findKey Tryd.underlying9 hf, Result.andThen]
  · refine ⟨false, ?_, fun h => (by cases h), fun h => absurd ((h2 s).2 h) hno⟩
    simp [Instr.lookup, run_underlying Tryd.underlying73, MapKept.run_getObj_map hb, hc, MapKept.run_findKey Tryd.underlying9 hf, Result.andThen, hz]
theorem update_named {w : World} {r : Nat} {N : List ByteArray} (h : Named w r N) (s : ByteArray) :
    ∃ w', (Instr.mapUpdate 73 (.map (some r)) (.string s) (.bool true)).run Tryd.prog w = .ok () w' ∧ Named w' r (s :: N) ∧ Fr (fun k => k = r) w w' ∧ ∃ es clock, w.heap[r]? = some (.map es clock) := by
  obtain ⟨es, clock, hb, h1, h2⟩ := h
  have hc : (Instr.checkKey false 10000 9 (.string s)).run Tryd.prog w = .ok () w := MapKept.run_checkKey (k := .string s) Tryd.underlying9 (by simp [MapKept.IsKey]) false 9999
  have hfr : ∀ es' c', Fr (fun k => k = r) w { w with heap := w.heap.setIfInBounds r (.map es' c') } := fun es' c' => ⟨rfl, rfl, rfl, by simp, fun k _ hk => (MapKept.heap_set hb).2 k hk⟩
  rcases find_named s es.toList 0 h1 with ⟨j, _, hl, hk, hf⟩ | ⟨hf, hno⟩
  · have hm : s ∈ N := (h2 s).1 ⟨_, List.getElem_mem hl, hk⟩
    have hjl : j < es.size := by simpa using hl
    have hkj : es[j].key = .string s := by simpa using hk
    have hkk : (Instr.keyThatStays (((es[j]?).map (·.key)).getD (.string s)) (.string s)).run Tryd.prog w = .ok (.string s) w := by
      rw [Array.getElem?_eq_getElem hjl]
      simp only [Option.map_some, Option.getD_some, hkj]
      have hsb : Instr.sameBits 10000 (.string s) (.string s) = true := by
        unfold Instr.sameBits
        simp [(MapKept.bytes_beq s s).2 rfl]
      simp [Instr.keyThatStays, hsb]
    refine ⟨_, ?_, ?_, hfr (es.modify j fun e => { e with key := .string s, val := .bool true }) clock, es, clock, hb⟩
    · simp [Instr.mapUpdate, run_underlying Tryd.underlying73, MapKept.run_getObj_map hb, hc, MapKept.run_findKey Tryd.underlying9 hf, MapKept.run_setObj_map _ hb, Result.andThen, hkk]
    · refine ⟨_, _, (MapKept.heap_set hb).1, fun e he => ?_, fun t => ?_⟩
      · obtain ⟨x, hx, rfl⟩ := Array.getElem_of_mem (Array.mem_toList_iff.1 he)
        rw [Array.getElem_modify]
        split
        · exact ⟨rfl, s, rfl⟩
        · exact h1 _ (by simp)
      · rw [List.mem_cons, ← h2 t]
        constructor
        · rintro ⟨e, he, hk⟩
          obtain ⟨x, hx, rfl⟩ := Array.getElem_of_mem (Array.mem_toList_iff.1 he)
          rw [Array.getElem_modify] at hk
          split at hk
          · injection hk with hk; exact .inl hk.symm
          · exact .inr ⟨_, by simp, hk⟩
        · have hmj : ({ es[j] with key := .string s, val := .bool true } : MapEntry) ∈ (es.modify j fun e => { e with key := .string s, val := .bool true }).toList := by
            have hlt : j < (es.modify j fun e => { e with key := .string s, val := .bool true }).size := by simpa using hjl
            have := Array.getElem_mem hlt
            rw [Array.getElem_modify, if_pos rfl] at this
            exact Array.mem_toList_iff.2 this
          rintro (rfl | ⟨e, he, hk⟩)
          · exact ⟨_, hmj, rfl⟩
          · obtain ⟨x, hx, rfl⟩ := Array.getElem_of_mem (Array.mem_toList_iff.1 he)
            by_cases hxj : j = x
            · subst hxj
              exact ⟨_, hmj, by rw [hkj] at hk; exact hk⟩
            · have hlt : x < (es.modify j fun e => { e with key := .string s, val := .bool true }).size := by simpa using hx
              refine ⟨_, ?_, hk⟩
              have := Array.getElem_mem hlt
              rw [Array.getElem_modify, if_neg hxj] at this
              exact Array.mem_toList_iff.2 this
  · have hm : s ∉ N := fun h => hno ((h2 s).2 h)
    refine ⟨_, ?_, ?_, hfr (es.push { key := .string s, val := .bool true, born := clock }) (clock + 1), es, clock, hb⟩
    · simp [Instr.mapUpdate, run_underlying Tryd.underlying73, MapKept.run_getObj_map hb, hc, MapKept.run_findKey Tryd.underlying9 hf, MapKept.run_setObj_map _ hb, Result.andThen]
    · refine ⟨_, _, (MapKept.heap_set hb).1, fun e he => ?_, fun t => ?_⟩
      · rw [Array.toList_push] at he
        rcases List.mem_append.1 he with he | he
        · exact h1 e he
        · rw [List.mem_singleton.1 he]; exact ⟨rfl, s, rfl⟩
      · rw [Array.toList_push, List.mem_cons, ← h2 t]
        constructor
        · rintro ⟨e, he, hk⟩
          rcases List.mem_append.1 he with he | he
          · exact .inr ⟨e, he, hk⟩
          · rw [List.mem_singleton.1 he] at hk
            injection hk with hk; exact .inl hk.symm
        · rintro (rfl | ⟨e, he, hk⟩)
          · exact ⟨_, List.mem_append_right _ (List.mem_singleton.2 rfl), rfl⟩
          · exact ⟨e, List.mem_append_left _ he, hk⟩
/-- A map's block, turned: rows lie elsewhere. -/
theorem map_cell {w : World} {r : Nat} {es : Array MapEntry} {c : Nat} (hm : w.heap[r]? = some (.map es c)) {a : Addr} (ha : a.block = r) : w.cell? a = none := by
  unfold World.cell?
  rw [ha, hm]
theorem Sees.frM {w w' : World} {b r : Nat} {q : Option Addr} {l : List Value} {es : Array MapEntry} {c : Nat} (h : Sees w b q l) (hb : b ≤ w.heap.size) (hm : w.heap[r]? = some (.map es c)) (hf : Fr (fun k => k = r) w w') : Sees w' b q l := fun h0 => by
  obtain ⟨a, e, ha, hc⟩ := h h0
  have hne : a.block ≠ r := fun k => by
    have h1 := hc 0 l[0] (List.getElem?_eq_getElem h0)
    rw [map_cell hm (by rw [add_block]; exact k)] at h1
    cases h1
  refine ⟨a, e, ha, fun j u hu => (World.cell?_of_block ?_).trans (hc j u hu)⟩
  rw [add_block]
  exact hf.block _ (Nat.lt_of_lt_of_le ha hb) hne
theorem Bs.frM {w w' : World} {r : Nat} {es : Array MapEntry} {c : Nat} {v : Value} {b : List (BitVec 8)} (h : Bs w v b) (hm : w.heap[r]? = some (.map es c)) (hf : Fr (fun k => k = r) w w') : Bs w' v b := by
  obtain ⟨q, c, h1, h2, h3, h4⟩ := h
  exact ⟨q, c, h1, h2, h3, (h4.frM (Nat.le_refl _) hm hf).more hf.size⟩
theorem RdT.frM {w w' : World} {r : Nat} {es : Array MapEntry} {c : Nat} {v : Value} {Y : List Ent} (h : RdT w v Y) (hm : w.heap[r]? = some (.map es c)) (hf : Fr (fun k => k = r) w w') : RdT w' v Y := by
  obtain ⟨C, e, ⟨q, c, h1, h2, h3, h4⟩, h5⟩ := h
  exact ⟨C, e, ⟨q, c, h1, h2, h3, (h4.frM (Nat.le_refl _) hm hf).more hf.size⟩, fun x hx => (h5 x hx).frM hm hf⟩
theorem has_ne {w : World} {r k : Nat} {es : Array MapEntry} {c : Nat} {t : TypeId} {l : List Value} (hm : w.heap[r]? = some (.map es c)) (h : Has w k t l) : k ≠ r := fun e => by
  subst e
  have h' : w.heap[k]? = some (.cells l.toArray t (0, 0)) := h
  rw [hm] at h'
  cases h'
theorem DiskAt.frM {w w' : World} {g n r : Nat} {B : Option Nat} {S : DS} {es : Array MapEntry} {c : Nat} (h : DiskAt w g n B S) (hm : w.heap[r]? = some (.map es c)) (hf : Fr (fun k => k = r) w w') : DiskAt w' g n B S := by
  obtain ⟨h1, h2, h3, vn, vl, vw, vk, h4, h5, h6, e, ⟨L, h7, h8, h9, h10⟩, q, c0, h11, h12, h13⟩ := h
  refine ⟨h1, Nat.le_trans h2 hf.size, h3, vn, vl, vw, vk, hf.has (has_ne hm h4) h4, h5.frM hm hf, h6.frM hm hf, e, ⟨L, h7, ⟨h8.1, ?_⟩, fun x hx => (h9 x hx).frM hm hf, ?_⟩, q, c0, h11, (h12.frM (Nat.le_refl _) hm hf).more hf.size, fun a ha hk => ?_⟩
  · rcases h8.2 with ⟨a, b⟩ | ⟨g', cap, cur, a, b, d, x⟩
    · exact .inl ⟨a, b⟩
    · refine .inr ⟨g', cap, cur, a, b, ?_, x⟩
      have hh : Has w g' 47 cur.toList := by unfold Has; simpa using d
      have := hf.has (has_ne hm hh) hh
      unfold Has at this
      simpa using this
  · intro b hb
    obtain ⟨t, cs, hh, hu⟩ := h10 b hb
    exact ⟨t, cs, hf.has (has_ne hm hh) hh, hu⟩
  · obtain ⟨x, y, l, z⟩ := h13 a ha hk
    exact ⟨x, y, l, hf.has (has_ne hm z) z⟩
theorem Named.fr {w w' : World} {r : Nat} {N : List ByteArray} {X : Nat → Prop} (h : Named w r N) (hf : Fr X w w') (hx : ¬ X r) : Named w' r N := by
  obtain ⟨es, c, hb, h1, h2⟩ := h
  exact ⟨es, c, (hf.block r (Array.getElem?_eq_some_iff.1 hb).1 hx).trans hb, h1, h2⟩
end Go.Proofs.YtefamkckoikeoaaDoor
/- The law DiskSure returns true, whatever the changes. Conditions: strings of at most 2^61 bytes, bytes at most 2^47. -/
namespace Go.Proofs.YtefamkckoikeoaaDoor
open Go.RowKit
theorem named_new (w : World) : Named (w.alloc (.map #[] 0)) w.heap.size [] := ⟨#[], 0, heap_alloc_new w _, fun _ h => (by cases h), fun s => ⟨fun ⟨_, h, _⟩ => (by cases h), fun h => (by cases h)⟩⟩
/-- A disk that holds what the first loop asks. -/
def SureI (w : World) (g : Nat) (i : Nat) (B : Option Nat) (S : DS) : Prop := DiskAt w g (g + 1) B S ∧ Sm S ∧ S.waits.length ≤ i ∧ S.keep = [] ∧ Lit S ∧ 0 ≤ S.count ∧ S.count ≤ i
theorem sure_do {S : DS} {c : Chg} {i : Nat} (h1 : S.waits.length ≤ i) (h2 : S.keep = []) (h4 : Lit S) (h5 : 0 ≤ S.count) (h6 : S.count ≤ i) :
    (doS S c).1.waits.length ≤ i + 1 ∧ (doS S c).1.keep = [] ∧ Lit (doS S c).1 ∧ 0 ≤ (doS S c).1.count ∧ (doS S c).1.count ≤ ((i + 1 : Nat) : Int) := by
  refine ⟨?_, ?_, do_lit2 h4 c, ?_⟩ <;> rcases do_lit h4 c with ⟨h, _⟩ | ⟨_, _, h⟩ <;> rw [h]
  · omega
  · simp only [List.length_append, List.length_singleton]; omega
  · exact h2
  · exact h2
  · exact ⟨h5, by omega⟩
  · show 0 ≤ S.count + 1 ∧ S.count + 1 ≤ ((i + 1 : Nat) : Int)
    omega
theorem good_ok {w : World} {v : Value} {X : List Ent} (h : RdT w v X) (hg : goodP X = true) : Calls Tryd.prog 40 #[.agg #[v]] w fun e w2 => e = .returned (.bool true) ∧ Below w.heap.size w w2 := by
  obtain ⟨C, q, c, rfl, _, h2, _, h4, h5, h6, _, _, h8, h9, h10⟩ := rdt_parts h hg
  have := tgood_any C q c (by omega) h2 (by omega) (fun e he => by have := h10 e he; omega) w h4 h5
  rwa [h6] at this
theorem era_mem {C : List Ent} {e : Ent} (h : e ∈ era C) : ∃ z ∈ C, z.1 = e.1 ∧ z.2.1 = e.2.1 ∧ z.2.2.2 = e.2.2.2 := by
  obtain ⟨z, hz, rfl⟩ := List.mem_map.1 h
  exact ⟨z, hz, rfl, rfl, rfl⟩
/-- The second loop's. -/
def SureJ (X : List Ent) (k : Int) (i : Nat) (N : List ByteArray) (S : DS) : Prop := Sm S ∧ S.waits.length ≤ i ∧ S.lasts = X ∧ Lit S ∧ 0 ≤ S.count ∧ S.count ≤ k + i ∧ ∀ c ∈ S.waits, c.2.1 ∈ N ∧ (c.1 = 4 → c.2.2.1 ∈ N)
theorem sure_do2 {X : List Ent} {k : Int} {S : DS} {c : Chg} {i : Nat} {N N' : List ByteArray} (h : SureJ X k i N S) (hl : i < 1000) (hc : c.2.1.size < 2305843009213693952 ∧ c.2.2.1.size < 2305843009213693952 ∧ c.2.2.2.length ≤ 140737488355328) (hn : ∀ s ∈ N, s ∈ N') (h1 : c.2.1 ∈ N') (h2 : c.1 = 4 → c.2.2.1 ∈ N') : SureJ X k (i + 1) N' (doS S c).1 := by
  obtain ⟨a, b, d, e, f, g, w⟩ := h
  refine ⟨do_sm a c hc (by omega), ?_⟩
  rcases do_lit e c with ⟨h, _⟩ | ⟨_, _, h⟩ <;> rw [h]
  · exact ⟨by omega, d, e, f, by omega, fun x hx => ⟨hn _ (w x hx).1, fun h => hn _ ((w x hx).2 h)⟩⟩
  · refine ⟨by simp only [List.length_append, List.length_singleton]; omega, d, e, ?_, ?_, fun x hx => ?_⟩
    · show 0 ≤ S.count + 1; omega
    · show S.count + 1 ≤ k + ((i + 1 : Nat) : Int); omega
    · rcases List.mem_append.1 hx with hx | hx
      · exact ⟨hn _ (w x hx).1, fun h => hn _ ((w x hx).2 h)⟩
      · rw [List.mem_singleton.1 hx]; exact ⟨h1, h2⟩
theorem own_boxy2 {w : World} {g n : Nat} {B : Option Nat} {S : DS} (hD : DiskAt w g n B S) : ∀ k, k < w.heap.size → Own g B k → Boxy w k := fun k _ hk => by
  rcases hk with rfl | hk
  · exact hD.boxy
  · exact (hD.boxyB hk.symm).1
theorem byte_eq {a b : ByteArray} (h : a.data.toList = b.data.toList) : a = b := by
  cases a; cases b; simp_all
theorem sure_un {X : List Ent} {k : Int} {i : Nat} {N : List ByteArray} {S : DS} (h : SureJ X k i N S) {p : ByteArray} (hp : p ∉ N) : ∀ c ∈ S.waits, Un c p.data.toList := fun c hc => by
  obtain ⟨_, _, _, _, _, _, w⟩ := h
  exact ⟨fun e => hp (byte_eq e ▸ (w c hc).1), fun h4 e => hp (byte_eq e ▸ (w c hc).2 h4)⟩
noncomputable def chkS25 : Array Oper := regOf Tryd.f6.body 25
noncomputable def chkS38 : Array Oper := regOf Tryd.f6.body 38
set_option maxRecDepth 100000 in
theorem chkS25_ok : otcB [.inl (0, true), .inl (1, false), .inl (2, true), .inl (3, true), .inl (4, true), .inl (5, true), .inl (6, false), .inl (7, false), .inl (8, true), .inl (9, true)] chkS25 = true := by kernel_rfl
set_option maxRecDepth 100000 in
theorem chkS38_ok : flOk [(0, true), (1, true), (2, true), (3, true), (4, true), (5, true), (6, true), (7, false), (8, true), (9, true), (10, true)] 11 [(12, false), (13, true)] chkS38 = true := by kernel_rfl
set_option maxHeartbeats 64000000 in
set_option maxRecDepth 100000 in
theorem sure9_any (A L : List ActE) (qa qb : Option Addr) (ca cb : Nat) (K : List Int) (qk : Option Addr) (ck : Nat) (torn : Int) (hzA : ∀ e ∈ A, okC e) (hz : ∀ e ∈ L, okC e) (w : World) (hsA : Sees w w.heap.size qa (rowA A)) (hs : Sees w w.heap.size qb (rowA L)) (hsK : Sees w w.heap.size qk (K.map (Value.int .i64))) (hBA : ∀ e ∈ A, Bs w e.2.2.2.1 e.2.2.2.2) (hB : ∀ e ∈ L, Bs w e.2.2.2.1 e.2.2.2.2) :
    Calls Tryd.prog 6 #[.slice qa A.length ca, .slice qb L.length cb, .slice qk K.length ck, .int .i64 torn] w fun e w' => e = .returned (.bool true) ∧ Below w.heap.size w w' := by
  have HSA := Lib.hid hsA
  have HBA := Lib.hid hBA
  have HZA := Lib.hid hzA
  have HS := Lib.hid hs
  have HBL := Lib.hid hB
  have HZ := Lib.hid hz
  have HSK := Lib.hid hsK
  clear hs hB hz hsA hBA hzA hsK
  go_enter Tryd.func6, Tryd.ntmps6
  go_wp2_with fail
  refine (awake9_any _).mono ?_
  rintro e w0 ⟨rfl, hb⟩
  have HB := Lib.hid hb
  clear hb
  by_cases hl1 : 30 < A.length
  · have kl : (30 : Int) < (A.length : Int) := by omega
    go_wp2_with fail
    go_ret
    exact ⟨rfl, HB.out⟩
  have kl1 : ¬ (30 : Int) < (A.length : Int) := by omega
  by_cases hl2 : 30 < L.length
  · have kl : (30 : Int) < (L.length : Int) := by omega
    go_wp2_with fail
    go_ret
    exact ⟨rfl, HB.out⟩
  have kl2 : ¬ (30 : Int) < (L.length : Int) := by omega
  by_cases hl3 : 50 < K.length
  · have kl : (50 : Int) < (K.length : Int) := by omega
    go_wp2_with fail
    go_ret
    exact ⟨rfl, HB.out⟩
  have kl3 : ¬ (50 : Int) < (K.length : Int) := by omega
  go_wp2_with fail
  refine (new_any [] none 0 16384 (Nat.le_refl _) (by simp) (fun _ => rfl) (by simp [bytesT]) (fun _ h => by cases h) w0 (Sees.nil _ _ _) (fun _ h => by cases h)).mono ?_
  rintro e w1 ⟨hn, hb⟩
  have HLE := Lib.hid HB.out.size
  replace HB := Lib.hid (HB.out.trans (hb.mono HB.out.size))
  obtain ⟨g, rfl, hg, hd⟩ := newP_ok hn (by decide) (by decide)
  have HG : Hid (w.heap.size ≤ g) := Lib.hid (Nat.le_trans HLE.out hg)
  have HI : Hid (SureI w1 g 0 none (newS [] 16384)) := Lib.hid ⟨hd, new_sm _ _, Nat.le_refl _, rfl, ⟨rfl, rfl⟩, Int.le_refl _, Int.le_refl _⟩
  clear hn hb hg hd HLE
  generalize newS [] 16384 = S0 at *
  go_wp2_with fail
  go_loopw [11] (fun vi wr => ∃ (i : Nat) (B : Option Nat) (S : DS), i ≤ A.length ∧ vi = .int .i64 i ∧ SureI wr g i B S ∧ Below w.heap.size w wr) (fun vi _ => A.length - (intOf vi).toNat)
  case atStart => exact ⟨0, _, _, by omega, rfl, HI.out, HB.out⟩
  case round =>
    rename World => wr
    clear HB HI
    obtain ⟨i, B, S, hi, rfl, hI, hB⟩ := hrel
    have HB := Lib.hid hB
    obtain ⟨hD, hP⟩ := hI
    have HD := Lib.hid hD
    have HP := Lib.hid hP
    clear hB hD hP
    by_cases hlt : i < A.length
    · have kk : (i : Int) < (A.length : Int) := by omega
      obtain ⟨a, rfl, ha, hc⟩ := HSA.out.act hlt
      obtain ⟨c0, c1, c2, c3⟩ := hc wr HB.out
      obtain ⟨qx, cx, hv, hcb, hqb, hsb⟩ := (HBA.out A[i] (List.getElem_mem hlt)).keep HB.out
      have hok := HZA.out A[i] (List.getElem_mem hlt)
      obtain ⟨e, he⟩ : ∃ e, A[i] = e := ⟨_, rfl⟩
      simp only [he] at c0 c1 c2 c3 hv hcb hsb hok
      obtain ⟨op, p, t, bv, bb⟩ := e
      have hv' : bv = .slice qx (List.length bb) cx := hv
      subst hv'
      simp only [] at c0 c1 c2 c3 hcb hsb hok
      have HOK : Hid (p.size < 2305843009213693952 ∧ t.size < 2305843009213693952 ∧ bb.length ≤ 140737488355328) := Lib.hid hok
      have hCNT : -9223372036854775808 ≤ S.count ∧ S.count < 9223372036854775807 := by have := HP.out.2.2.2.2; omega
      have HDO := Lib.hid (do_any g (g + 1) B S op p t bb qx cx HOK.out.1 HOK.out.2.1 HOK.out.2.2 hcb hqb HP.out.1 (by have := HP.out.2.1; omega) hCNT wr HD.out hsb)
      clear hc ha hv hcb hqb hsb hok he hCNT
      go_wp2_with fail
      clear c0 c1 c2 c3
      refine HDO.out.mono ?_
      rintro e w3 ⟨rfl, ha⟩
      replace HB := Lib.hid (HB.out.trans (After.below HD.out ha HG.out))
      obtain ⟨_, hD2, _, _⟩ := ha
      replace HD := Lib.hid hD2
      clear hD2
      clear HDO
      have HN : Hid (Sm (doS S (op, p, t, bb)).1 ∧ _) := Lib.hid (And.intro (do_sm HP.out.1 (op, p, t, bb) HOK.out (by have := HP.out.2.1; omega)) (sure_do (c := (op, p, t, bb)) HP.out.2.1 HP.out.2.2.1 HP.out.2.2.2.1 HP.out.2.2.2.2.1 HP.out.2.2.2.2.2))
      have kwi : IntKind.i64.wrap ((i : Int) + 1) = (i : Int) + 1 := by rw [IntWalk.i64_in _ (by omega)]
      generalize doS S (op, p, t, bb) = R at *
      obtain ⟨S2, E⟩ := R
      simp only [] at HD HN
      go_wp2_with fail
      go_roundw
      case rel => exact ⟨i + 1, _, _, by omega, by go_num, ⟨HD.out, HN.out⟩, HB.out⟩
      case measure => simp [intOf]; omega
    · have hil : i = A.length := by omega
      subst hil
      have k0 : ¬ (A.length : Int) < (A.length : Int) := by omega
      have HSY : Hid (syncS S = ({ S with lasts := S.now, waits := [], count := S.count + 1 }, 0)) := Lib.hid (by
        have h4 := HP.out.2.2.2.1
        unfold syncS; rw [power_lit h4, if_neg (by rw [h4.1]; simp)])
      have hCNT : -9223372036854775808 ≤ S.count ∧ S.count < 9223372036854775807 := by have := HP.out.2.2.2.2; omega
      have HSC := Lib.hid (sync_any g (g + 1) B S HP.out.1 hCNT wr HD.out)
      rw [HSY.out] at HSC
      have HKB : Hid ((syncS S).1.keep = [] ∧ SureJ S.now (S.count + 1) 0 [] (syncS S).1) := Lib.hid (by
        rw [HSY.out]
        obtain ⟨h1, h2, h3, h4, h5, h6⟩ := HP.out
        exact ⟨h3, ⟨Nat.zero_le _, fun _ h => (by cases h), h1.2.2⟩, Nat.le_refl _, rfl, h4, (show 0 ≤ S.count + 1 by omega), (show S.count + 1 ≤ S.count + 1 + ((0 : Nat) : Int) by omega), fun _ h => (by cases h)⟩)
      rw [HSY.out] at HKB
      have HCL : Hid (S.count + 1 ≤ 1000) := Lib.hid (by have := HP.out.2.2.2.2; omega)
      clear hlt hCNT
      go_wp2_with fail
      refine HSC.out.mono ?_
      rintro e w3 ⟨rfl, ha, hd⟩
      replace HB := Lib.hid (HB.out.trans (After.below HD.out ha HG.out))
      replace HD := Lib.hid (hd trivial)
      clear ha hd HSC HSY
      generalize hS1 : ({ S with lasts := S.now, waits := [], count := S.count + 1 } : DS) = S1 at *
      have HLN : Hid (S1.lasts = S1.now ∧ S1.now = S.now ∧ S1.keep = S.keep) := Lib.hid (by rw [← hS1]; exact ⟨rfl, rfl, rfl⟩)
      have HGO := Lib.hid HD.out.2.2.1.now
      clear hS1
      go_wp2_with fail
      refine (now_any _ _ _ _ _ HD.out).mono ?_
      rintro e w4 ⟨⟨v, rfl, hR⟩, hb⟩
      replace HB := Lib.hid (HB.out.trans (hb.mono HB.out.size))
      replace HD := Lib.hid (HD.out.keep hb)
      have HR1 := Lib.hid hR
      clear hb hR
      go_wp2_with fail
      refine (lasts_any _ _ _ _ _ HD.out).mono ?_
      rintro e w5 ⟨⟨v2, rfl, hR⟩, hb⟩
      replace HB := Lib.hid (HB.out.trans (hb.mono HB.out.size))
      replace HD := Lib.hid (HD.out.keep hb)
      rw [HLN.out.1] at hR
      replace HR1 := Lib.hid (HR1.out.keep hb)
      clear hb
      go_wp2_with fail
      refine (same_ok HR1.out hR HGO.out).mono ?_
      rintro e w6 ⟨rfl, hb⟩
      replace HB := Lib.hid (HB.out.trans (hb.mono HB.out.size))
      replace HD := Lib.hid (HD.out.keep hb)
      clear hb hR HR1
      go_wp2_with fail
      refine (lasts_any _ _ _ _ _ HD.out).mono ?_
      rintro e w7 ⟨⟨v, rfl, hR⟩, hb⟩
      replace HB := Lib.hid (HB.out.trans (hb.mono HB.out.size))
      replace HD := Lib.hid (HD.out.keep hb)
      obtain ⟨qs, ns, cs, rfl⟩ := hR.slice
      rw [HLN.out.1, HLN.out.2.1] at hR
      clear hb
      have hb := (Below.refl w7.heap.size w7).alloc (Nat.le_refl _) (.cells #[.slice qs ns cs] 25)
      have HT : Hid (Has (w7.alloc (.cells #[.slice qs ns cs] 25)) w7.heap.size 25 [.slice qs ns cs]) := Lib.hid (Has.made w7 _ _)
      have HR := Lib.hid (hR.keep hb)
      replace HB := Lib.hid (HB.out.trans (hb.mono HB.out.size))
      replace HD := Lib.hid (HD.out.keep hb)
      clear hb hR
      have HW7 : Hid (w.heap.size ≤ w7.heap.size + 1) := Lib.hid (by have := HB.out.size; simp at this; omega)
      have e1 : (w7.alloc (.cells #[.slice qs ns cs] 25)).heap.size = w7.heap.size + 1 := by simp
      have mm := run_makeMap_plain (P := Tryd.prog) (w7.alloc (.cells #[.slice qs ns cs] 25)) 73
      have hnm := named_new (w7.alloc (.cells #[.slice qs ns cs] 25))
      rw [e1] at mm hnm
      have HNM := Lib.hid hnm
      have hb := (Below.refl (w7.alloc (.cells #[.slice qs ns cs] 25)).heap.size (w7.alloc (.cells #[.slice qs ns cs] 25))).alloc (Nat.le_refl _) (.map #[] 0)
      replace HB := Lib.hid (HB.out.trans (hb.mono HB.out.size))
      replace HT := Lib.hid (HT.out.keep hb HT.out.lt)
      replace HR := Lib.hid (HR.out.keep hb)
      replace HD := Lib.hid (HD.out.keep hb)
      have HRG : Hid (w7.heap.size + 1 ≠ g) := Lib.hid (by
        obtain ⟨es, c, h, _⟩ := hnm
        obtain ⟨_, _, _, _, _, _, _, hh, _⟩ := HD.out
        exact Ne.symm (has_ne h hh))
      have HRL : Hid (w7.heap.size + 1 < ((w7.alloc (.cells #[.slice qs ns cs] 25)).alloc (.map #[] 0)).heap.size) := Lib.hid (by simp)
      clear hb hnm e1
      go_wp2_with fail
      clear mm
      generalize (w7.alloc (.cells #[.slice qs ns cs] 25)).alloc (.map #[] 0) = wk at *
      generalize w7.heap.size + 1 = RM at *
      generalize w7.heap.size = GT at *
      replace HD := Lib.hid (HD.out.rebase (HLN.out.2.2.trans HKB.out.1) HD.out.lt (Nat.le_refl _))
      generalize hmk : wk.heap.size = MK at *
      clear hmk
      have HJ := Lib.hid HKB.out.2
      clear HKB HGO HLN HP
      generalize S.now = X0 at *
      generalize S.count + 1 = KC at *
      go_loopw [14] (fun vi wr => ∃ (i : Nat) (B : Option Nat) (S : DS) (N : List ByteArray), i ≤ L.length ∧ vi = .int .i64 i ∧ DiskAt wr g MK B S ∧ SureJ X0 KC i N S ∧ Named wr RM N ∧ Has wr GT 25 [.slice qs ns cs] ∧ RdT wr (.slice qs ns cs) X0 ∧ Below w.heap.size w wr) (fun vi _ => L.length - (intOf vi).toNat)
      case atStart => exact ⟨0, _, _, _, by omega, rfl, HD.out, HJ.out, HNM.out, HT.out, HR.out, HB.out⟩
      case round =>
        rename World => wr
        clear HB HD HJ HNM HT HR
        obtain ⟨i, B, S, N, hi, rfl, hD, hJ, hN, hT, hR, hB⟩ := hrel
        have HB := Lib.hid hB
        have HD := Lib.hid hD
        have HJ := Lib.hid hJ
        have HNM := Lib.hid hN
        have HT := Lib.hid hT
        have HR := Lib.hid hR
        clear hB hD hJ hN hT hR
        by_cases hlt : i < L.length
        · have kk : (i : Int) < (L.length : Int) := by omega
          obtain ⟨a, rfl, ha, hc⟩ := HS.out.act hlt
          obtain ⟨qx, cx, hv, hcb, hqb, hsb⟩ := (HBL.out L[i] (List.getElem_mem hlt)).keep HB.out
          have hok := HZ.out L[i] (List.getElem_mem hlt)
          obtain ⟨e, he⟩ : ∃ e, L[i] = e := ⟨_, rfl⟩
          rw [he] at hv hcb hsb hok
          simp only [he] at hc
          obtain ⟨op, p, t, bv, bb⟩ := e
          have hv' : bv = .slice qx (List.length bb) cx := hv
          subst hv'
          simp only [] at hc hcb hsb hok
          have HC := Lib.hid hc
          obtain ⟨c0, c1, c2, c3⟩ := hc wr HB.out
          have HOK : Hid (p.size < 2305843009213693952 ∧ t.size < 2305843009213693952 ∧ bb.length ≤ 140737488355328) := Lib.hid hok
          have hCNT : -9223372036854775808 ≤ S.count ∧ S.count < 9223372036854775807 := by have := HJ.out.2.2.2.2; have := HCL.out; omega
          have HDO := Lib.hid (do_any g MK B S op p t bb qx cx HOK.out.1 HOK.out.2.1 HOK.out.2.2 hcb hqb HJ.out.1 (by have := HJ.out.2.1; omega) hCNT wr HD.out hsb)
          clear hc ha hv hcb hqb hsb hok he hCNT
          go_wp2_with fail
          clear c0 c1 c2 c3
          refine HDO.out.mono ?_
          rintro e w3 ⟨rfl, ha⟩
          replace HB := Lib.hid (HB.out.trans (After.below HD.out ha HG.out))
          obtain ⟨B2, hD2, hx, hf⟩ := ha
          have HOR : Hid (¬ Own g B RM) := Lib.hid (fun h => by
            rcases h with h | h
            · exact HRG.out h
            · have := (HD.out.boxyB h.symm).2.1; have := HRL.out; omega)
          replace HT := Lib.hid (hf.has (tree_own HD.out HT.out) HT.out)
          replace HR := Lib.hid (HR.out.fr hf (own_boxy2 HD.out))
          replace HNM := Lib.hid (HNM.out.fr hf HOR.out)
          replace HD := Lib.hid hD2
          clear hD2 hx hf HDO HOR
          obtain ⟨c0, c1, c2, c3⟩ := HC.out w3 HB.out
          obtain ⟨w4, hu, hN4, hf4, es4, cl4, hm4⟩ := update_named HNM.out p
          have HHU := Lib.hid hu
          replace HD := Lib.hid (HD.out.frM hm4 hf4)
          replace HT := Lib.hid (hf4.has (has_ne hm4 HT.out) HT.out)
          replace HR := Lib.hid (HR.out.frM hm4 hf4)
          replace HNM := Lib.hid hN4
          replace HB := Lib.hid (HB.out.trans (hf4.below (n := w.heap.size) (fun k hk h => by have := HW7.out; omega) HB.out.size))
          have HN2 : Hid (∀ N', (∀ s ∈ N, s ∈ N') → p ∈ N' → (op = 4 → t ∈ N') → SureJ X0 KC (i + 1) N' (doS S (op, p, t, bb)).1) := Lib.hid (fun N' h1 h2 h3 => sure_do2 HJ.out (by omega) HOK.out h1 h2 h3)
          clear hN4 hf4 hm4 HHU
          have HC4 := Lib.hid (HC.out w4 HB.out)
          generalize doS S (op, p, t, bb) = R at *
          obtain ⟨S2, E⟩ := R
          simp only [] at HD HN2
          have kwi : IntKind.i64.wrap ((i : Int) + 1) = (i : Int) + 1 := by rw [IntWalk.i64_in _ (by omega)]
          obtain ⟨d0, d1, d2, d3⟩ := HC4.out
          by_cases hop : op = 4
          · subst hop
            obtain ⟨w5, hu5, hN5, hf5, es5, cl5, hm5⟩ := update_named HNM.out t
            have HD5 := Lib.hid (HD.out.frM hm5 hf5)
            have HT5 := Lib.hid (hf5.has (has_ne hm5 HT.out) HT.out)
            have HR5 := Lib.hid (HR.out.frM hm5 hf5)
            have HNM5 := Lib.hid hN5
            have HB5 := Lib.hid (HB.out.trans (hf5.below (n := w.heap.size) (fun k hk h => by have := HW7.out; omega) HB.out.size))
            clear hN5 hf5 hm5
            go_wp2_with fail
            go_roundw
            case rel => exact ⟨i + 1, _, _, _, by omega, by go_num, HD5.out, HN2.out _ (fun s hs => List.mem_cons_of_mem _ (List.mem_cons_of_mem _ hs)) (List.mem_cons_of_mem _ (List.mem_cons_self ..)) (fun _ => List.mem_cons_self ..), HNM5.out, HT5.out, HR5.out, HB5.out⟩
            case measure => simp [intOf]; omega
          · have kop : (op == 4) = false := by simpa using hop
            have kop2 : (op = 4) = False := eq_false hop
            go_wp2_with fail
            go_roundw
            case rel => exact ⟨i + 1, _, _, _, by omega, by go_num, HD.out, HN2.out _ (fun s hs => List.mem_cons_of_mem _ hs) (List.mem_cons_self ..) (fun h => absurd h hop), HNM.out, HT.out, HR.out, HB.out⟩
            case measure => simp [intOf]; omega
        · have hil : i = L.length := by omega
          subst hil
          have k0 : ¬ (L.length : Int) < (L.length : Int) := by omega
          clear hlt
          go_wp2_with fail
          refine (crash_any g MK B S K qk ck torn (by omega) HJ.out.1 wr HD.out ((HSK.out.keep HB.out).more HB.out.size)).mono ?_
          rintro e w3 ⟨rfl, ha⟩
          have HX0 : Hid (era X0 = X0 ∧ goodP X0 = true) := Lib.hid (by
            have h1 := HD.out.2.2.1.lastsE
            have h2 := HD.out.2.2.1.lasts
            rw [HJ.out.2.2.1] at h1 h2
            exact ⟨h1, h2⟩)
          have HFM : Hid (((crashS S K torn).lasts = (crashS S K torn).now) ∧ ∀ e : Ent, e.1 ∉ N → (e ∈ (crashS S K torn).now ↔ e ∈ X0)) := Lib.hid (by
            have hl := HJ.out.2.2.2.1
            have h3 := HJ.out.2.2.1
            unfold crashS
            rw [if_neg (by rw [hl.1]; simp), h3]
            exact ⟨rfl, fun e he => foldC_mem _ HX0.out.1 fun c hc => sure_un HJ.out he c (keptF_mem _ _ _ _ hc)⟩)
          replace HB := Lib.hid (HB.out.trans (After.below HD.out ha HG.out))
          obtain ⟨B2, hD2, hx, hf⟩ := ha
          have HOR : Hid (¬ Own g B RM) := Lib.hid (fun h => by
            rcases h with h | h
            · exact HRG.out h
            · have := (HD.out.boxyB h.symm).2.1; have := HRL.out; omega)
          replace HT := Lib.hid (hf.has (tree_own HD.out HT.out) HT.out)
          replace HR := Lib.hid (HR.out.fr hf (own_boxy2 HD.out))
          replace HNM := Lib.hid (HNM.out.fr hf HOR.out)
          replace HD := Lib.hid hD2
          clear hD2 hx hf HOR HJ
          generalize crashS S K torn = T at *
          have HGD := Lib.hid HD.out.2.2.1.now
          go_wp2_with fail
          refine (now_any _ _ _ _ _ HD.out).mono ?_
          rintro e w4 ⟨⟨v, rfl, hR⟩, hb⟩
          obtain ⟨qn, nn, cn, rfl⟩ := hR.slice
          replace HB := Lib.hid (HB.out.trans (hb.mono HB.out.size))
          replace HD := Lib.hid (HD.out.keep hb)
          replace HT := Lib.hid (HT.out.keep hb HT.out.lt)
          replace HR := Lib.hid (HR.out.keep hb)
          replace HNM := Lib.hid (HNM.out.fr (X := fun _ => False) (Fr.of_below hb) (fun h => h))
          clear hb
          have hb := (Below.refl w4.heap.size w4).alloc (Nat.le_refl _) (.cells #[.slice qn nn cn] 25)
          have HTN : Hid (Has (w4.alloc (.cells #[.slice qn nn cn] 25)) w4.heap.size 25 [.slice qn nn cn]) := Lib.hid (Has.made w4 _ _)
          have HRN := Lib.hid (hR.keep hb)
          replace HB := Lib.hid (HB.out.trans (hb.mono HB.out.size))
          replace HD := Lib.hid (HD.out.keep hb)
          replace HT := Lib.hid (HT.out.keep hb HT.out.lt)
          replace HR := Lib.hid (HR.out.keep hb)
          replace HNM := Lib.hid (HNM.out.fr (X := fun _ => False) (Fr.of_below hb) (fun h => h))
          clear hb hR
          go_wp2_with fail
          generalize w4.alloc (.cells #[.slice qn nn cn] 25) = w5 at *
          generalize w4.heap.size = GN at *
          refine wp_region_os [.inl (0, true), .inl (1, false), .inl (2, true), .inl (3, true), .inl (4, true), .inl (5, true), .inl (6, false), .inl (7, false), .inl (8, true), .inl (9, true)] _ chkS25_ok rfl (by kernel_rfl) (by kernel_rfl) (fun w' => Has w' GN 25 [.slice qn nn cn]) HTN.out.drew ?_
          have hb := (Below.refl w5.heap.size w5).drew
          replace HB := Lib.hid (HB.out.trans (hb.mono HB.out.size))
          replace HD := Lib.hid (HD.out.keep hb)
          replace HT := Lib.hid (HT.out.keep hb HT.out.lt)
          replace HR := Lib.hid (HR.out.keep hb)
          replace HTN := Lib.hid (HTN.out.keep hb HTN.out.lt)
          replace HRN := Lib.hid (HRN.out.keep hb)
          replace HNM := Lib.hid (HNM.out.fr (X := fun _ => False) (Fr.of_below hb) (fun h => h))
          clear hb
          generalize w5.drew = wd at *
          simp only [pickOt, List.getElem?_cons_zero, List.getElem?_cons_succ]
          refine os_pure (v := ?_) (by kernel_rfl) ?_ ?_
          rotate_left
          · intro w' hv; have cx := hv.cellv (i := 0) (v := .slice qn nn cn) rfl; clear hv; go_simp; try with_reducible rfl
          try simp only [Act.put, List.setIfInBounds_toArray, List.set_cons_zero, List.set_cons_succ]
          refine os_step (by kernel_rfl) (fun K hK => ?_)
          go_wp2_with fail
          refine (good_ok HRN.out HGD.out).mono ?_
          rintro e wn ⟨rfl, hb⟩
          replace HB := Lib.hid (HB.out.trans (hb.mono HB.out.size))
          replace HD := Lib.hid (HD.out.keep hb)
          replace HT := Lib.hid (HT.out.keep hb HT.out.lt)
          replace HR := Lib.hid (HR.out.keep hb)
          replace HTN := Lib.hid (HTN.out.keep hb HTN.out.lt)
          replace HRN := Lib.hid (HRN.out.keep hb)
          replace HNM := Lib.hid (HNM.out.fr (X := fun _ => False) (Fr.of_below hb) (fun h => h))

          go_wp2_with fail
          refine ⟨HTN.out, ?_⟩
          try clear hK
          clear hb 
          rename World => wd
          try simp only [Act.put, List.setIfInBounds_toArray, List.set_cons_zero, List.set_cons_succ]
          refine os_pure (v := ?_) (by kernel_rfl) ?_ ?_
          rotate_left
          · intro w' hv; clear hv; go_simp; try with_reducible rfl
          try simp only [Act.put, List.setIfInBounds_toArray, List.set_cons_zero, List.set_cons_succ]
          refine os_pure (v := ?_) (by kernel_rfl) ?_ ?_
          rotate_left
          · intro w' hv; clear hv; go_simp; try with_reducible rfl
          try simp only [Act.put, List.setIfInBounds_toArray, List.set_cons_zero, List.set_cons_succ]
          refine os_pure (v := ?_) (by kernel_rfl) ?_ ?_
          rotate_left
          · intro w' hv; have cx := hv.cellv (i := 0) (v := .slice qn nn cn) rfl; clear hv; go_simp; try with_reducible rfl
          try simp only [Act.put, List.setIfInBounds_toArray, List.set_cons_zero, List.set_cons_succ]
          refine os_pure (v := ?_) (by kernel_rfl) ?_ ?_
          rotate_left
          · intro w' hv; clear hv; go_simp; try with_reducible rfl
          try simp only [Act.put, List.setIfInBounds_toArray, List.set_cons_zero, List.set_cons_succ]
          refine os_step (by kernel_rfl) (fun K hK => ?_)
          go_wp2_with fail
          refine (lasts_any _ _ _ _ _ HD.out).mono ?_
          rintro e wn ⟨⟨v, rfl, hR2⟩, hb⟩
          replace HB := Lib.hid (HB.out.trans (hb.mono HB.out.size))
          replace HD := Lib.hid (HD.out.keep hb)
          replace HT := Lib.hid (HT.out.keep hb HT.out.lt)
          replace HR := Lib.hid (HR.out.keep hb)
          replace HTN := Lib.hid (HTN.out.keep hb HTN.out.lt)
          replace HRN := Lib.hid (HRN.out.keep hb)
          replace HNM := Lib.hid (HNM.out.fr (X := fun _ => False) (Fr.of_below hb) (fun h => h))
          rw [HFM.out.1] at hR2
          have HR2 := Lib.hid hR2
          go_wp2_with fail
          refine ⟨HTN.out, ?_⟩
          try clear hK
          clear hb hR2
          rename World => wd
          try simp only [Act.put, List.setIfInBounds_toArray, List.set_cons_zero, List.set_cons_succ]
          refine os_step (by kernel_rfl) (fun K hK => ?_)
          go_wp2_with fail
          refine (same_ok HRN.out HR2.out HGD.out).mono ?_
          rintro e wn ⟨rfl, hb⟩
          replace HB := Lib.hid (HB.out.trans (hb.mono HB.out.size))
          replace HD := Lib.hid (HD.out.keep hb)
          replace HT := Lib.hid (HT.out.keep hb HT.out.lt)
          replace HR := Lib.hid (HR.out.keep hb)
          replace HTN := Lib.hid (HTN.out.keep hb HTN.out.lt)
          replace HRN := Lib.hid (HRN.out.keep hb)
          replace HNM := Lib.hid (HNM.out.fr (X := fun _ => False) (Fr.of_below hb) (fun h => h))

          go_wp2_with fail
          refine ⟨HTN.out, ?_⟩
          try clear hK
          clear hb HR2
          rename World => wd
          try simp only [Act.put, List.setIfInBounds_toArray, List.set_cons_zero, List.set_cons_succ]
          refine os_pure (v := ?_) (by kernel_rfl) ?_ ?_
          rotate_left
          · intro w' hv; clear hv; go_simp; try with_reducible rfl
          try simp only [Act.put, List.setIfInBounds_toArray, List.set_cons_zero, List.set_cons_succ]
          refine os_pure (v := ?_) (by kernel_rfl) ?_ ?_
          rotate_left
          · intro w' hv; clear hv; go_simp; try with_reducible rfl
          try simp only [Act.put, List.setIfInBounds_toArray, List.set_cons_zero, List.set_cons_succ]
          refine os_nil ?_
          go_wp2_with fail
          clear HD
          obtain ⟨Cs, q1, c1, hv1, hcs1, hcs2, hcs3, hcs4, hcs5, hcs6, hcs7, hcs8, hcs9, hcs10, hcs11⟩ := rdt_parts HR.out HX0.out.2
          cases hv1
          obtain ⟨Cn, q2, c2, hv2, hcn1, hcn2, hcn3, hcn4, hcn5, hcn6, hcn7, hcn8, hcn9, hcn10, hcn11⟩ := rdt_parts HRN.out HGD.out
          cases hv2
          have HSs := Lib.hid hcs4
          have HSn := Lib.hid hcn4
          have HEs := Lib.hid hcs5
          have HEn := Lib.hid hcn5
          have HCs : Hid (goodP Cs = true ∧ era Cs = X0 ∧ Cs.length ≤ cs ∧ (qs = none → cs = 0)) := Lib.hid ⟨hcs6, hcs7, hcs2, hcs3⟩
          have HCn : Hid (goodP Cn = true ∧ era Cn = T.now ∧ Cn.length ≤ cn ∧ (qn = none → cn = 0)) := Lib.hid ⟨hcn6, hcn7, hcn2, hcn3⟩
          have HSM : Hid ((∀ e ∈ Cs, e.1.size ≤ 68) ∧ (∀ e ∈ Cn, e.1.size ≤ 68) ∧ bytesT Cs ≤ 16384 ∧ bytesT Cn ≤ 16384) := Lib.hid ⟨hcs11, hcn11, hcs10, hcn10⟩
          clear hcs1 hcs2 hcs3 hcs4 hcs5 hcs6 hcs7 hcs8 hcs10 hcs11 hcn1 hcn2 hcn3 hcn4 hcn5 hcn6 hcn7 hcn8 hcn10 hcn11 HR HRN
          rename World => wl
          go_loopw [16] (fun vi wr => ∃ i : Nat, i ≤ Cs.length ∧ vi = .int .i64 i ∧ Below wl.heap.size wl wr) (fun vi _ => Cs.length - (intOf vi).toNat)
          case atStart => exact ⟨0, by omega, rfl, Below.refl _ _⟩
          case round =>
            rename World => wr
            obtain ⟨i, hi, rfl, hBl⟩ := hrel
            have HBL2 := Lib.hid hBl
            clear hBl
            have ct := (HT.out.keep HBL2.out HT.out.lt).cellv (i := 0) (v := .slice qs Cs.length cs) rfl
            by_cases hlt : i < Cs.length
            · have kk : (i : Int) < (Cs.length : Int) := by omega
              obtain ⟨a, rfl, _, hc⟩ := HSs.out.ent hlt
              obtain ⟨c1, c2, c3⟩ := hc wr HBL2.out
              obtain ⟨qx, cx, hv, hcb, hqb, hsb⟩ := (HEs.out Cs[i] (List.getElem_mem hlt)).keep HBL2.out
              have hsz := HSM.out.1 Cs[i] (List.getElem_mem hlt)
              have HMEM : Hid (Cs[i].1 ∉ N → (findP Cn Cs[i].1).2 = 0 ∧ ∃ h : (findP Cn Cs[i].1).1 < Cn.length, Cn[(findP Cn Cs[i].1).1].1 = Cs[i].1 ∧ Cn[(findP Cn Cs[i].1).1].2.1 = Cs[i].2.1 ∧ Cn[(findP Cn Cs[i].1).1].by = Cs[i].by) := Lib.hid (fun hn => by
                have h1 : era1 Cs[i] ∈ X0 := by rw [← HCs.out.2.1]; exact List.mem_map_of_mem (List.getElem_mem hlt)
                have h2 := (HFM.out.2 (era1 Cs[i]) hn).2 h1
                rw [← HCn.out.2.1] at h2
                obtain ⟨z, hz, z1, z2, z3⟩ := era_mem h2
                have hfm := find_mem HCn.out.1 hz
                have z1' : z.1 = Cs[i].1 := z1
                rw [z1'] at hfm
                obtain ⟨f1, f2, f3⟩ := hfm
                exact ⟨f1, f2, by rw [f3]; exact z1, by rw [f3]; exact z2, by rw [f3]; exact z3⟩)
              obtain ⟨e, he⟩ : ∃ e, Cs[i] = e := ⟨_, rfl⟩
              rw [he] at c1 c2 c3 hv hcb hsb hsz HMEM
              obtain ⟨x, d, bv, bb⟩ := e
              have hv' : bv = .slice qx (List.length bb) cx := hv
              subst hv'
              simp only [] at c1 c2 c3 hcb hsb hsz HMEM
              have hb := (Below.refl wr.heap.size wr).alloc (Nat.le_refl _) (.cells #[.string x, .bool d, .slice qx bb.length cx] 32)
              have HX : Hid (Has (wr.alloc (.cells #[.string x, .bool d, .slice qx bb.length cx] 32)) wr.heap.size 32 [.string x, .bool d, .slice qx bb.length cx]) := Lib.hid (Has.made wr _ _)
              have HSB := Lib.hid ((hsb.keep hb).more hb.size)
              have HBL3 := Lib.hid (HBL2.out.trans (hb.mono HBL2.out.size))
              obtain ⟨bn, hlk, hbn⟩ := lookup_named (HNM.out.fr (X := fun _ => False) (Fr.of_below HBL3.out) (fun h => h)) x
              have kwi : IntKind.i64.wrap ((i : Int) + 1) = (i : Int) + 1 := by rw [IntWalk.i64_in _ (by omega)]
              clear hc hv hcb hqb hsb hb he
              cases bn with
              | true =>
                clear hbn
                go_wp2_with fail
                go_roundw
                case rel => exact ⟨i + 1, by omega, by go_num, HBL3.out⟩
                case measure => simp [intOf]; omega
              | false =>
                have HM := Lib.hid (HMEM.out (fun h => by have := hbn.2 h; cases this))
                clear hbn HMEM
                have tn := (HTN.out.keep HBL3.out HTN.out.lt).cellv (i := 0) (v := .slice qn Cn.length cn) rfl
                have HFC := Lib.hid (tFind_any Cn qn cn x (by omega) HCn.out.2.2.1 (by have := HSM.out.2.2.2; omega) (fun e he => by have := HSM.out.2.1 e he; omega) (by omega) (fun e he hg => by have := good_by hg e he; omega) _ ((HSn.out.keep HBL3.out).more HBL3.out.size) (HEn.out.keep HBL3.out))
                rw [HM.out.1] at HFC
                go_wp2_with fail
                clear tn ct c1 c2 c3
                generalize wr.alloc (.cells #[.string x, .bool d, .slice qx bb.length cx] 32) = wA at *
                generalize wr.heap.size = BX at *
                refine HFC.out.mono ?_
                rintro e w6 ⟨⟨⟨rx, rd, rv, rb⟩, rfl, hFR⟩, hb⟩
                obtain ⟨q5, c5, hv5, _, _, hs5⟩ := hFR.1.bs
                have hv5' : rv = .slice q5 (List.length rb) c5 := hv5
                subst hv5'
                have hEQ : rd = d ∧ rb = bb := by
                  obtain ⟨m0, mh, m1, m2, m3⟩ := HM.out
                  rcases hFR.2 with ⟨_, h, h1, h2, h3⟩ | ⟨h0, _⟩
                  · exact ⟨h2.trans m2, h3.trans m3⟩
                  · exact absurd m0 h0
                obtain ⟨rfl, rfl⟩ := hEQ
                replace HBL3 := Lib.hid (HBL3.out.trans (hb.mono HBL3.out.size))
                replace HX := Lib.hid (HX.out.keep hb HX.out.lt)
                replace HSB := Lib.hid ((HSB.out.keep hb).more hb.size)
                have hb6 := (Below.refl w6.heap.size w6).alloc (Nat.le_refl _) (.cells #[.string rx, .bool rd, .slice q5 rb.length c5] 32)
                replace HBL3 := Lib.hid (HBL3.out.trans (hb6.mono HBL3.out.size))
                replace HX := Lib.hid (HX.out.keep hb6 HX.out.lt)
                replace HSB := Lib.hid ((HSB.out.keep hb6).more hb6.size)
                have hs6 := (hs5.keep hb6).more hb6.size
                have x1 := HX.out.cellv (i := 1) (v := .bool rd) rfl
                have x2 := HX.out.cellv (i := 2) (v := .slice qx rb.length cx) rfl
                have r1 := str_run rb q5 c5 _ _ hs6
                have r2 := str_run rb qx cx _ _ HSB.out
                simp only [entV]
                clear hb hb6 hFR hv5 hs5 HFC HM
                go_wp2_with fail
                go_roundw
                case rel => exact ⟨i + 1, by omega, by go_num, HBL3.out⟩
                case measure => simp [intOf]; omega
            · have hil : i = Cs.length := by omega
              subst hil
              have k0 : ¬ (Cs.length : Int) < (Cs.length : Int) := by omega
              clear hlt
              have HBW := Lib.hid HBL2.out
              go_wp2_with fail
              clear ct
              rename World => wz
              go_loopw [20] (fun vi wr => ∃ j : Nat, j ≤ Cn.length ∧ vi = .int .i64 j ∧ Below wl.heap.size wl wr) (fun vi _ => Cn.length - (intOf vi).toNat)
              case atStart => exact ⟨0, by omega, rfl, HBW.out⟩
              case round =>
                rename World => wr
                clear HBW HBL2
                obtain ⟨j, hj, rfl, hBl⟩ := hrel
                have HBL2 := Lib.hid hBl
                clear hBl
                have ct := (HTN.out.keep HBL2.out HTN.out.lt).cellv (i := 0) (v := .slice qn Cn.length cn) rfl
                by_cases hlt : j < Cn.length
                · have kk : (j : Int) < (Cn.length : Int) := by omega
                  obtain ⟨a, rfl, _, hc⟩ := HSn.out.ent hlt
                  have hsz := HSM.out.2.1 Cn[j] (List.getElem_mem hlt)
                  have HMEM : Hid (Cn[j].1 ∉ N → (findP Cs Cn[j].1).2 = 0) := Lib.hid (fun hn => by
                    have h1 : era1 Cn[j] ∈ T.now := by rw [← HCn.out.2.1]; exact List.mem_map_of_mem (List.getElem_mem hlt)
                    have h2 := (HFM.out.2 (era1 Cn[j]) hn).1 h1
                    rw [← HCs.out.2.1] at h2
                    obtain ⟨z, hz, z1, _, _⟩ := era_mem h2
                    obtain ⟨f1, _⟩ := find_mem HCs.out.1 hz
                    have z1' : z.1 = Cn[j].1 := z1
                    rw [z1'] at f1
                    exact f1)
                  have HC : Hid (∀ w', Below wl.heap.size wl w' → w'.cell? (a.add (j * 3)) = some (.string Cn[j].1)) := Lib.hid (fun w' h => (hc w' h).1)
                  generalize Cn[j].1 = y at *
                  clear hc
                  have HFC : Hid (∀ w2, Below wl.heap.size wl w2 → Calls Tryd.prog 12 #[.agg #[.slice qs Cs.length cs], .string y] w2 fun e w' => (∃ rx rd q5 n5 c5, e = .returned (.tuple #[.agg #[.string rx, .bool rd, .slice q5 n5 c5], .int .i64 (findP Cs y).2])) ∧ Below w2.heap.size w2 w') := Lib.hid (fun w2 h => by
                    refine (tFind_any Cs qs cs y (by omega) HCs.out.2.2.1 (by have := HSM.out.2.2.1; omega) (fun e he => by have := HSM.out.1 e he; omega) (by omega) (fun e he hg => by have := good_by hg e he; omega) _ ((HSs.out.keep h).more h.size) (HEs.out.keep h)).mono ?_
                    rintro e w6 ⟨⟨⟨rx, rd, rv, rb⟩, rfl, hFR⟩, hb⟩
                    obtain ⟨q5, c5, hv5, _, _, _⟩ := hFR.1.bs
                    have hv5' : rv = .slice q5 (List.length rb) c5 := hv5
                    subst hv5'
                    exact ⟨⟨rx, rd, q5, rb.length, c5, rfl⟩, hb⟩)
                  generalize (findP Cs y).2 = E at *
                  have kwj : IntKind.i64.wrap ((j : Int) + 1) = (j : Int) + 1 := by rw [IntWalk.i64_in _ (by omega)]
                  go_wp2_with fail
                  refine wp_join (fun a a' w' => ∃ x0 x1 x2 x3 x4 x5 x6 x7 x8 x9 x10 gT, a' = (((((((((((((a.put (some 166) x0).put (some 167) x1).put (some 168) x2).put (some 169) x3).put (some 170) x4).put (some 171) x5).put (some 172) x6).put (some 173) x7).put (some 165) x8).put (some 174) x9).put (some 175) x10).put (some 21) (.pointer (some ⟨gT, 0, none⟩))).put (some 22) (.int .i64 E)) ∧ Below wl.heap.size wl w') ?_ ?_
                  · refine wp_region_fl [(0, true), (1, true), (2, true), (3, true), (4, true), (5, true), (6, true), (7, false), (8, true), (9, true), (10, true)] 11 [(12, false), (13, true)] _ rfl rfl (by kernel_rfl) (by kernel_rfl) _ chkS38_ok rfl (fun w' => Below wl.heap.size wl w') HBL2.out.drew ?_
                    have HBD : Hid (Below wl.heap.size wl wr.drew) := Lib.hid HBL2.out.drew
                    generalize wr.drew = wd at *
                    simp only [pickOrs, List.getElem?_cons_zero, List.getElem?_cons_succ]
                    refine fl_pure (v := ?_) (by kernel_rfl) ?_ ?_
                    rotate_left
                    · intro w' hv; have cx := (HT.out.keep hv HT.out.lt).cellv (i := 0) (v := .slice qs Cs.length cs) rfl; clear hv; go_simp; try with_reducible rfl
                    try simp only [Act.put, List.setIfInBounds_toArray, List.set_cons_zero, List.set_cons_succ]
                    refine fl_pure (v := ?_) (by kernel_rfl) ?_ ?_
                    rotate_left
                    · intro w' hv; clear hv; go_simp; try with_reducible rfl
                    try simp only [Act.put, List.setIfInBounds_toArray, List.set_cons_zero, List.set_cons_succ]
                    refine fl_pure (v := ?_) (by kernel_rfl) ?_ ?_
                    rotate_left
                    · intro w' hv; have cx := (HTN.out.keep hv HTN.out.lt).cellv (i := 0) (v := .slice (some a) Cn.length cn) rfl; clear hv; go_simp; try with_reducible rfl
                    try simp only [Act.put, List.setIfInBounds_toArray, List.set_cons_zero, List.set_cons_succ]
                    refine fl_pure (v := ?_) (by kernel_rfl) ?_ ?_
                    rotate_left
                    · intro w' hv; clear hv; go_simp; try with_reducible rfl
                    try simp only [Act.put, List.setIfInBounds_toArray, List.set_cons_zero, List.set_cons_succ]
                    refine fl_pure (v := ?_) (by kernel_rfl) ?_ ?_
                    rotate_left
                    · intro w' hv; clear hv; go_simp; try with_reducible rfl
                    try simp only [Act.put, List.setIfInBounds_toArray, List.set_cons_zero, List.set_cons_succ]
                    refine fl_pure (v := ?_) (by kernel_rfl) ?_ ?_
                    rotate_left
                    · intro w' hv; clear hv; go_simp; try with_reducible rfl
                    try simp only [Act.put, List.setIfInBounds_toArray, List.set_cons_zero, List.set_cons_succ]
                    refine fl_pure (v := ?_) (by kernel_rfl) ?_ ?_
                    rotate_left
                    · intro w' hv; have cx := HC.out w' hv; clear hv; go_simp; try with_reducible rfl
                    try simp only [Act.put, List.setIfInBounds_toArray, List.set_cons_zero, List.set_cons_succ]
                    refine fl_step rfl (fun K hK => ?_) (fun K hK => ?_)
                    · go_wp2_with fail
                      refine (HFC.out _ HBD.out).mono ?_
                      rintro e w3 ⟨⟨rx, rd, q5, n5, c5, rfl⟩, hb⟩
                      have HB3 := Lib.hid (HBD.out.trans (hb.mono HBD.out.size))
                      refine hK _ _ ⟨HB3.out, ?_⟩
                      clear hK hb
                      try simp only [Act.put, List.setIfInBounds_toArray, List.set_cons_zero, List.set_cons_succ]
                      refine fl_pure (v := ?_) (by kernel_rfl) ?_ ?_
                      rotate_left
                      · intro w' hv; clear hv; go_simp; try with_reducible rfl
                      try simp only [Act.put, List.setIfInBounds_toArray, List.set_cons_zero, List.set_cons_succ]
                      refine fl_pure (v := ?_) (by kernel_rfl) ?_ ?_
                      rotate_left
                      · intro w' hv; clear hv; go_simp; try with_reducible rfl
                      try simp only [Act.put, List.setIfInBounds_toArray, List.set_cons_zero, List.set_cons_succ]
                      refine fl_pure (v := ?_) (by kernel_rfl) ?_ ?_
                      rotate_left
                      · intro w' hv; clear hv; go_simp; try with_reducible rfl
                      try simp only [Act.put, List.setIfInBounds_toArray, List.set_cons_zero, List.set_cons_succ]
                      refine fl_nil (fun K hK => ?_)
                      go_wp2_with fail
                      have HG2 : Hid (Has (w3.alloc (.cells #[.string ⟨#[]⟩, .bool false, .slice none 0 0] 32)) w3.heap.size 32 [.string ⟨#[]⟩, .bool false, .slice none 0 0]) := Lib.hid (Has.made w3 _ _)
                      have HGE : Hid (wl.heap.size ≤ w3.heap.size) := Lib.hid HB3.out.size
                      replace HB3 := Lib.hid (HB3.out.alloc HB3.out.size (.cells #[.string ⟨#[]⟩, .bool false, .slice none 0 0] 32))
                      refine ⟨HB3.out, ?_⟩
                      generalize w3.alloc (.cells #[.string ⟨#[]⟩, .bool false, .slice none 0 0] 32) = wo at *
                      generalize w3.heap.size = BT at *
                      try simp only [Act.put, List.setIfInBounds_toArray, List.set_cons_zero, List.set_cons_succ]
                      have g0 := HG2.out.cellv (i := 0) (v := .string ⟨#[]⟩) rfl
                      have g1 := HG2.out.cellv (i := 1) (v := .bool false) rfl
                      have g2 := HG2.out.cellv (i := 2) (v := .slice none 0 0) rfl
                      have p0 := HG2.out.free 0
                      have p1 := HG2.out.free 1
                      have p2 := HG2.out.free 2
                      have HBF := Lib.hid (((HB3.out.setCell (p := ⟨BT, 0, none⟩) HGE.out (.string rx)).setCell (p := ⟨BT, 1, none⟩) HGE.out (.bool rd)).setCell (p := ⟨BT, 2, none⟩) HGE.out (.slice q5 n5 c5))
                      refine ors_step (by kernel_rfl) (fun K hK => ?_)
                      go_wp2_with fail
                      refine ⟨HBF.out, ?_⟩
                      try simp only [Act.put, List.setIfInBounds_toArray, List.set_cons_zero, List.set_cons_succ]
                      refine ors_pure (v := ?_) (by kernel_rfl) ?_ ?_
                      rotate_left
                      · intro w' hv; clear hv; go_simp; try with_reducible rfl
                      try simp only [Act.put, List.setIfInBounds_toArray, List.set_cons_zero, List.set_cons_succ]
                      refine ors_nil ?_
                      exact ⟨rfl, _, _, _, _, _, _, _, _, _, _, _, BT, rfl, HBF.out⟩
                    · go_wp2_with fail
                      have HG2 : Hid (Has (wd.alloc (.cells #[.string ⟨#[]⟩, .bool false, .slice none 0 0] 32)) wd.heap.size 32 [.string ⟨#[]⟩, .bool false, .slice none 0 0]) := Lib.hid (Has.made wd _ _)
                      have HGE : Hid (wl.heap.size ≤ wd.heap.size) := Lib.hid HBD.out.size
                      have HB2 := Lib.hid (HBD.out.alloc HBD.out.size (.cells #[.string ⟨#[]⟩, .bool false, .slice none 0 0] 32))
                      refine ⟨HB2.out, ?_⟩
                      generalize wd.alloc (.cells #[.string ⟨#[]⟩, .bool false, .slice none 0 0] 32) = wm at *
                      generalize wd.heap.size = BT at *
                      try simp only [Act.put, List.setIfInBounds_toArray, List.set_cons_zero, List.set_cons_succ]
                      refine ors_step (by kernel_rfl) (fun K hK => ?_)
                      go_wp2_with fail
                      refine (HFC.out _ HB2.out).mono ?_
                      rintro e wo ⟨⟨rx, rd, q5, n5, c5, rfl⟩, hb⟩
                      replace HG2 := Lib.hid (HG2.out.keep hb HG2.out.lt)
                      have HB3 := Lib.hid (HB2.out.trans (hb.mono HB2.out.size))
                      refine hK _ _ ⟨HB3.out, ?_⟩
                      clear hK hb
                      try simp only [Act.put, List.setIfInBounds_toArray, List.set_cons_zero, List.set_cons_succ]
                      refine ors_pure (v := ?_) (by kernel_rfl) ?_ ?_
                      rotate_left
                      · intro w' hv; clear hv; go_simp; try with_reducible rfl
                      try simp only [Act.put, List.setIfInBounds_toArray, List.set_cons_zero, List.set_cons_succ]
                      refine ors_pure (v := ?_) (by kernel_rfl) ?_ ?_
                      rotate_left
                      · intro w' hv; clear hv; go_simp; try with_reducible rfl
                      try simp only [Act.put, List.setIfInBounds_toArray, List.set_cons_zero, List.set_cons_succ]
                      refine ors_pure (v := ?_) (by kernel_rfl) ?_ ?_
                      rotate_left
                      · intro w' hv; clear hv; go_simp; try with_reducible rfl
                      try simp only [Act.put, List.setIfInBounds_toArray, List.set_cons_zero, List.set_cons_succ]
                      have g0 := HG2.out.cellv (i := 0) (v := .string ⟨#[]⟩) rfl
                      have g1 := HG2.out.cellv (i := 1) (v := .bool false) rfl
                      have g2 := HG2.out.cellv (i := 2) (v := .slice none 0 0) rfl
                      have p0 := HG2.out.free 0
                      have p1 := HG2.out.free 1
                      have p2 := HG2.out.free 2
                      have HBF := Lib.hid (((HB3.out.setCell (p := ⟨BT, 0, none⟩) HGE.out (.string rx)).setCell (p := ⟨BT, 1, none⟩) HGE.out (.bool rd)).setCell (p := ⟨BT, 2, none⟩) HGE.out (.slice q5 n5 c5))
                      refine ors_step (by kernel_rfl) (fun K hK => ?_)
                      go_wp2_with fail
                      refine ⟨HBF.out, ?_⟩
                      try simp only [Act.put, List.setIfInBounds_toArray, List.set_cons_zero, List.set_cons_succ]
                      refine ors_pure (v := ?_) (by kernel_rfl) ?_ ?_
                      rotate_left
                      · intro w' hv; clear hv; go_simp; try with_reducible rfl
                      try simp only [Act.put, List.setIfInBounds_toArray, List.set_cons_zero, List.set_cons_succ]
                      refine ors_nil ?_
                      exact ⟨rfl, _, _, _, _, _, _, _, _, _, _, _, BT, rfl, HBF.out⟩
                  rintro a' wa ⟨x0, x1, x2, x3, x4, x5, x6, x7, x8, x9, x10, gT, rfl, hbw⟩
                  try simp only [Act.put, List.setIfInBounds_toArray, List.set_cons_zero, List.set_cons_succ]
                  have HBF := Lib.hid hbw
                  clear hbw HFC ct
                  by_cases hE : E = 0
                  · subst hE
                    go_wp2_with fail
                    go_roundw
                    case rel => exact ⟨j + 1, by omega, by go_num, HBF.out⟩
                    case measure => simp [intOf]; omega
                  · have kE : (E != 0) = true := by simpa using hE
                    obtain ⟨bn, hlk, hbn⟩ := lookup_named (HNM.out.fr (X := fun _ => False) (Fr.of_below HBF.out) (fun h => h)) y
                    have hbt : bn = true := hbn.2 (Classical.byContradiction fun h => hE (HMEM.out h))
                    subst hbt
                    have ct2 := (HTN.out.keep HBF.out HTN.out.lt).cellv (i := 0) (v := .slice (some a) Cn.length cn) rfl
                    have cy := HC.out wa HBF.out
                    clear hbn
                    go_wp2_with fail
                    go_roundw
                    case rel => exact ⟨j + 1, by omega, by go_num, HBF.out⟩
                    case measure => simp [intOf]; omega
                · have hil : j = Cn.length := by omega
                  subst hil
                  have k0 : ¬ (Cn.length : Int) < (Cn.length : Int) := by omega
                  have HEND := Lib.hid (HB.out.trans (HBL2.out.mono HB.out.size))
                  go_wp2_with fail
                  go_ret
                  exact ⟨rfl, HEND.out⟩
end Go.Proofs.YtefamkckoikeoaaDoor
/- A slice of numbers that came in. No condition. -/
namespace Go.Proofs.YtefamkckoikeoaaDoor
open Go.ChangeShapes Go.WideShapes Go.ChangeAt Go.RowKit Go.ChangeMaps Go.Deep Go.Joins
set_option maxRecDepth 100000 in
theorem open_intsF {H : Type} {enc : TypeId × Value → H} {w : World} {base fuel : Nat} {held : Bool} {v : Value} {y : DataW H × List MemPlace}
    (hf : DataW.trod enc Tryd.prog w base (fun _ => true) held fuel 51 [v] = some y) :
    ∃ (K : List Int) (q : Option Addr) (c : Nat), v = .slice q K.length c ∧ (q = none → c = 0) ∧ Sees w w.heap.size q (K.map (Value.int .i64)) := by
  obtain ⟨a0, len0, cap0, hv⟩ := slice_form Tryd.underlying51 hf
  obtain rfl : v = .slice a0 len0 cap0 := by simpa using hv
  obtain ⟨d, ps⟩ := y
  rcases open_ints Tryd.underlying51 Tryd.underlying3 (by kernel_rfl) hf with ⟨hcs, _⟩ | ⟨x, l, c, zs, hcs, _, hl, hm, hz, _, hcell, hwz⟩
  · simp at hcs
    obtain ⟨rfl, rfl, rfl⟩ := hcs
    exact ⟨[], none, 0, rfl, fun _ => rfl, Sees.nil _ _ _⟩
  · simp at hcs
    obtain ⟨rfl, rfl, rfl⟩ := hcs
    have hz' : zs.length = cap0 := by simpa using hz
    have hbl : (zs.take len0).length = len0 := by simp; omega
    refine ⟨zs.take len0, some x, cap0, by rw [hbl], fun h => (by cases h), fun h0 => ?_⟩
    have hp : 0 < zs.length := by simp at h0; omega
    refine ⟨x, rfl, by have := cell_lt (hcell 0 hp); rwa [add_block] at this, fun j u hu => ?_⟩
    have hj : j < len0 := by have := (List.getElem?_eq_some_iff.1 hu).1; simp at this; omega
    rw [hcell j (by omega), ← hu, List.getElem?_map, List.getElem?_take, if_pos hj, List.getElem?_eq_getElem (show j < zs.length by omega)]
    simp [List.getD_eq_getElem?_getD, List.getElem?_eq_getElem (show j < zs.length by omega)]
set_option maxRecDepth 100000 in
theorem open_intsC {H : Type} {enc : TypeId × Value → H} {w : World} {base b0 : Nat} {held : Bool} {r : Reach} {v : Value} {d : DataW H} {ps : List MemPlace}
    (hval : Value.okWide Tryd.prog w r b0 51 v) (h : DataW.Trod enc Tryd.prog w base (fun _ => true) held 51 v d ps) : ∃ (K : List Int) (q : Option Addr) (c : Nat), v = .slice q K.length c ∧ (q = none → c = 0) ∧ Sees w w.heap.size q (K.map (Value.int .i64)) := by
  obtain ⟨a0, len0, cap0, rfl⟩ := okWide_slice Tryd.underlying51 hval
  obtain ⟨fuel, hf⟩ := h
  exact open_intsF (by simpa [Value.cells] using hf)
end Go.Proofs.YtefamkckoikeoaaDoor
namespace Go.Proofs.YtefamkckoikeoaaDoor
open Go.ChangeShapes Go.WideShapes Go.ChangeAt Go.RowKit Go.ChangeMaps
set_option maxRecDepth 100000 in
theorem sure9_lifted (os : Os) (started : os.Started) (H : Type) (enc : TypeId × Value → H) :
    ReturnsInHanded {} Tryd.checked os 6 .any (fun w args => (Rows.diskSureSpec.pre enc Tryd.prog Tryd.f6 [] false w args ∧ laidMetH Tryd.prog laidVars w) ∧ sizedMet enc Tryd.prog Tryd.f6 (OpenSpec.ofChange Rows.diskSureSpec) false w args)
      (Rows.diskSureSpec.post enc Tryd.prog Tryd.f6 false true false false) := by
  refine returnsInHanded_of_change_and (C := Tryd.checked) (X := fun w _ => laidMetH Tryd.prog laidVars w) (fun _ _ _ hh h => h.of_heap hh) own started (by kernel_rfl) Tryd.func6
    (ChangeSpec.witness_shaped (enc := enc) (C := Tryd.checked) (os := os) (X := fun w _ => laidMetH Tryd.prog laidVars w) false (World.laidAll Tryd.prog os laidVars) #[.slice none 0 0, .slice none 0 0, .slice none 0 0, .int .i64 0] 8 (World.laidAll_os _ _ _) (World.shaped_of_ZipB (by kernel_rfl) (by kernel_rfl)) (by kernel_rfl) (by kernel_rfl) (by kernel_rfl) (laid_met os _)) ?_
  intro W base args ds gs before hval0 hW _ hsz0 hL _
  have hval : ∀ (j : Nat) t v, Tryd.f6.params[j]? = some t → args[j]? = some v → Value.okWide Tryd.prog W .any base t v := hval0
  have hW' := hW
  obtain ⟨p, q, hA0, hV, rfl, hfz, hnd⟩ := hW
  have hA : DataW.TrodAll enc Tryd.prog W 0 (fun _ => true) true Tryd.f6.params.toList args.toList ds p := hA0
  have hsz : (DataW.weightsEach Tryd.prog (Tryd.f6.params.toList ++ Rows.diskSureSpec.plain.varTypes Tryd.prog) (ds ++ gs)).all (· ≤ reachBytes) = true := hsz0
  rw [Tryd.params6] at hA hval hsz
  obtain ⟨v0, vs0, d0, ds0, p0, g0, hargs, rfl, rfl, h0, r0⟩ := trodAll_cons hA
  obtain ⟨v1, vs1, d1, ds1, p1, g1, rfl, rfl, rfl, h1, r1⟩ := trodAll_cons r0
  obtain ⟨v2, vs2, d2, ds2, p2, g2, rfl, rfl, rfl, h2, r2⟩ := trodAll_cons r1
  obtain ⟨v3, vs3, d3, ds3, p3, g3, rfl, rfl, rfl, h3, r3⟩ := trodAll_cons r2
  obtain ⟨rfl, rfl, rfl⟩ := trodAll_nil r3
  obtain rfl : args = #[v0, v1, v2, v3] := by cases args; simp_all
  obtain ⟨rfl, rfl⟩ := trodVars_none hV
  have k0 := h0
  have lt0 : ∀ x ∈ p0, x.block < W.heap.size := by obtain ⟨m, hm⟩ := k0; exact DataW.trod_lt m _ _ _ hm
  obtain ⟨l0, q0, c0, rfl, hs0, hB0, hw0⟩ := open_chgs (hval 0 48 v0 rfl rfl) h0
  have z0 : ∀ e ∈ l0, okC e := fun e he => wt_ok (hw0 e he) fun n hn => of_decide_eq_true (List.all_eq_true.1 hsz n (DataW.weights_mem_each (j := 0) rfl rfl n hn))
  have k1 := h1
  have lt1 : ∀ x ∈ p1, x.block < W.heap.size := by obtain ⟨m, hm⟩ := k1; exact DataW.trod_lt m _ _ _ hm
  obtain ⟨l1, q1, c1, rfl, hs1, hB1, hw1⟩ := open_chgs (hval 1 48 v1 rfl rfl) h1
  have z1 : ∀ e ∈ l1, okC e := fun e he => wt_ok (hw1 e he) fun n hn => of_decide_eq_true (List.all_eq_true.1 hsz n (DataW.weights_mem_each (j := 1) rfl rfl n hn))
  have k2 := h2
  have lt2 : ∀ x ∈ p2, x.block < W.heap.size := by obtain ⟨m, hm⟩ := k2; exact DataW.trod_lt m _ _ _ hm
  obtain ⟨l2, q2, c2, rfl, hq2, hs2⟩ := open_intsC (hval 2 51 v2 rfl rfl) h2
  obtain ⟨a3, rfl, rfl, rfl, m3⟩ := open_int Tryd.underlying3 (hval 3 3 v3 rfl rfl) h3
  clear hA0 hval0
  refine (sure9_any l0 l1 q0 q1 c0 c1 l2 q2 c2 a3 z0 z1 W hs0 hs1 hs2 hB0 hB1).mono fun e W' ⟨he, bel⟩ => ?_
  subst he
  exact ⟨_, rfl, _, _, _, [], _, [], hW', trodAll_mk1 (shut_bool Tryd.underlying4 _), (trodAll_cons_mk (Below.trod laidOut (by kernel_rfl) (of_decide_eq_true (by kernel_rfl)) k0 bel lt0) (trodAll_cons_mk (Below.trod laidOut (by kernel_rfl) (of_decide_eq_true (by kernel_rfl)) k1 bel lt1) (trodAll_cons_mk (Below.trod laidOut (by kernel_rfl) (of_decide_eq_true (by kernel_rfl)) k2 bel lt2) (trodAll_cons_mk (shut_int Tryd.underlying3 m3) trodAll_mk0)))), rfl, bel.frame _, fun h => by cases h⟩
theorem sure9_row : Rows.DiskSureSaid :=
  OpenClaim.holds_of_wide 6 Tryd.f6 rfl rfl rfl rfl rfl rfl rfl ⟨rfl, rfl, rfl, rfl, rfl⟩ rfl rfl rfl rfl rfl (by kernel_rfl) Tryd.func6 (by kernel_rfl)
    (of_decide_eq_true (by kernel_rfl)) (by unfold Func.isWrapper; first | (rw [if_pos (by decide +kernel)]; kernel_rfl) | (rw [if_neg (by decide +kernel)]; exact ⟨rfl, rfl⟩))
    (fun os started H enc _ => sure9_lifted os started H enc)
theorem diskSure_holds : Rows.DiskSureCardSaid :=
  Claim7.holds_tied_plain_at .later [] [.data, .pinned] true Rows.diskSureCard.stood.harness Rows.diskSureCard.stood.looks
    sure9_row (fun _ h => by cases h) (by kernel_rfl) (fun _ h => by cases h) diskSure_row_tie rfl ⟨rfl, rfl⟩ (by kernel_rfl) rfl
    (fun f fn hf hfn => by
      obtain rfl : f = 6 := Option.some.inj ((show Tryd.prog.funcNamed "tallyman/tallymanlaw9.DiskSure" = some 6 by kernel_rfl).symm.trans hf) |>.symm
      obtain rfl : fn = Tryd.f6 := (Option.some.inj (Tryd.func6.symm.trans hfn)).symm
      exact ⟨by kernel_rfl, fun j t ht => by
        rw [Tryd.params6] at ht
        have hm : t ∈ [48, 48, 51, 3] := by simpa using Array.mem_of_getElem? ht
        have hall : ([48, 48, 51, 3].all fun u => !Tryd.prog.wantsStandIn u) = true := by kernel_rfl
        exact (show Tryd.prog.wantsStandIn t = false by simpa using List.all_eq_true.1 hall t hm)⟩)
    (by kernel_rfl)
#print axioms diskSure_holds
end Go.Proofs.YtefamkckoikeoaaDoor
