/- Contract: package path's Sort: the Good ones of some texts, each once, in order. Conditions: at most a thousand texts, within the model's reach. -/
import Derived.Test.YtflgncagoiigfaaDoorPms
import Derived.Test.YtflgncagoiigfaaDoorMem
import Derived.OwnWalk
import Derived.Laws.AppendOwn
namespace Go.Proofs.YtflgncagoiigfaaDoor
open Go.RowKit Go.Sort
theorem str_info : (Tryd.prog.info? 9).map (fun i => (i.zero, i.size, i.bytes)) = some (some (.string ⟨#[]⟩), 1, 16) := by kernel_rfl
theorem own_base7 {w : World} {base n : Nat} {e : TypeId} {v : Value} {xs : List Value} (h : w.ownsRow base e 1 v n xs) : ∀ k, Value.ownBlock v = some k → base ≤ k := by
  intro k hk
  rcases h.2 with ⟨rfl, _⟩ | ⟨g, cap, cur, rfl, hb, _⟩
  · cases hk
  · have e : g = k := by simpa [Value.ownBlock] using hk
    omega
theorem own_below7 {w w' : World} {base n : Nat} {e : TypeId} {v : Value} {xs : List Value} (h : w.ownsRow base e 1 v n xs) (hb : RowKit.Below w.heap.size w w') : w'.ownsRow base e 1 v n xs :=
  h.kept (row := none) ⟨hb.os, hb.tape, hb.output, hb.size, fun k hk _ => hb.block k hk⟩ (by
    rcases h.2 with ⟨rfl, _⟩ | ⟨k, cap, cur, rfl, _⟩
    · exact .inl rfl
    · exact .inr (by simp [Value.ownBlock]))
/-- One text is put behind a row that the call owns. -/
theorem wp_addT {ops : Array Oper} {rest : List Oper} {o : Oper} {a : Act} {Q : Exit → Act → World → Prop}
    (hgd : o.guard = none) (sl x : Operand) (ho : o.op = .call { callee := .builtin .append, args := #[sl, x], argTypes := #[23, 23] }) {w : World} {base : Nat} {v : Value} {xs : List Value} (R : w.ownsRow base 9 1 v xs.length xs) (hbase : base ≤ w.heap.size)
    (hs : a.eval sl = v) (g : Nat) (u : Value) (hx : a.eval x = .slice (some ⟨g, 0, none⟩) 1 1) (hc : w.cell? ⟨g, 0, none⟩ = some u) (hu : u.oneCell' = true) (hn : xs.length ≤ 1000000)
    (h : ∀ v' w', w'.ownsRow base 9 1 v' (xs ++ [u]).length (xs ++ [u]) → Below base w w' → wpList Tryd.prog ops Q rest (a.put o.dst v') w') : wpList Tryd.prog ops Q (o :: rest) a w := by
  obtain ⟨i0, hi, hz0, hz1, hz2⟩ := info_parts str_info
  refine wpList_append_own _ hgd sl x 23 ho base 9 i0 (.string ⟨#[]⟩) 1 16 Tryd.underlying23 hi hz0 hz1 hz2 rfl (by decide) v xs.length xs hs R ⟨g, 0, none⟩ 1 1 [u] hx rfl ?_ ?_ (by unfold maxLen; omega) ?_ hbase
    fun v' w' ho' hg' _ => h v' w' (by rw [List.length_append]; exact ho') ((Below.refl base w).grown hg' hbase (fun k hk => own_base7 R k hk))
  · intro j y hj
    cases j with
    | zero => simp at hj; subst hj; simpa [Addr.add] using hc
    | succ j => simp at hj
  · intro y hy; simp at hy; subst hy; exact hu
  · exact Nat.le_trans (Nat.mul_le_mul (show xs.length + 1 ≤ 1000001 by omega) (Nat.le_refl 16)) (by decide)
/-- The value v reads as these texts. -/
def Ts (w : World) (v : Value) (L : List Tx) : Prop := ∃ q c, v = .slice q L.length c ∧ L.length ≤ c ∧ Sees w w.heap.size q (L.map encStr)
theorem Ts.keep {w w' : World} {v : Value} {L : List Tx} (h : Ts w v L) (hb : Below w.heap.size w w') : Ts w' v L := by
  obtain ⟨q, c, h1, h2, h3⟩ := h
  exact ⟨q, c, h1, h2, (h3.keep hb).more hb.size⟩
theorem Ts.nil (w : World) : Ts w (.slice none 0 0) [] := ⟨none, 0, rfl, Nat.le_refl _, Sees.nil _ _ _⟩
theorem Ts.own {w : World} {base n : Nat} {v : Value} {L : List Tx} (h : w.ownsRow base 9 1 v n (L.map encStr)) : Ts w v L := by
  have hn : L.length = n := by have := h.1; simpa using this
  subst hn
  rcases h.2 with ⟨rfl, h0⟩ | ⟨g, cap, cur, rfl, hb, hg, h1, _⟩
  · have : L = [] := List.eq_nil_of_length_eq_zero h0
    subst this
    exact Ts.nil w
  · refine ⟨_, cap, rfl, h1, fun _ => ⟨_, rfl, (Array.getElem?_eq_some_iff.1 hg).1, ?_⟩⟩
    exact h.cells (g := g) rfl
set_option maxHeartbeats 4000000 in
set_option maxRecDepth 100000 in
theorem sort_any (L : List Tx) (q : Option Addr) (c : Nat) (hm : L.length ≤ 1000) (hn : ∀ t ∈ L, t.length < 9223372036854775808) (w : World) (hs : Sees w w.heap.size q (L.map encStr)) :
    Calls Tryd.prog 15 #[.slice q L.length c] w fun e w' => (∃ v R, e = .returned v ∧ Srt L R ∧ R.length ≤ L.length ∧ Ts w' v R) ∧ Below w.heap.size w w' := by
  have HS := Lib.hid hs
  have HN := Lib.hid hn
  have HNIL := Lib.hid (World.ownsRow_nil w w.heap.size 9 1)
  clear hs hn
  go_enter Tryd.func15, Tryd.ntmps15
  go_wp2_with fail
  go_loopw [3, 5, 8] (fun v _ vi wr => ∃ (G : List Tx) (i : Nat), i ≤ L.length ∧ vi = .int .i64 i ∧ G = (L.take i).filter okPath ∧ wr.ownsRow w.heap.size 9 1 v (G.map encStr).length (G.map encStr) ∧ Below w.heap.size w wr) (fun _ _ vi _ => L.length - (intOf vi).toNat)
  case atStart => exact ⟨[], 0, by omega, rfl, rfl, HNIL.out, Below.refl _ _⟩
  case round =>
    rename_i wr
    obtain ⟨G, i, hi, rfl, hG, hrow, hB⟩ := hrel
    have HROW := Lib.hid hrow
    have HB := Lib.hid hB
    clear hrow hB
    by_cases hlt : i < L.length
    · have htk : (L.take (i + 1)).filter okPath = G ++ (if okPath L[i] then [L[i]] else []) := by
        rw [List.take_add_one, List.getElem?_eq_getElem hlt, List.filter_append, hG]
        show _ ++ [L[i]].filter okPath = _
        cases hk : okPath L[i] <;> simp [hk]
      have HTK := Lib.hid htk
      have hgl : G.length ≤ i := by rw [hG]; exact Nat.le_trans (List.length_filter_le _ _) (List.length_take_le _ _)
      have hxs := HN.out L[i] (List.getElem_mem hlt)
      obtain ⟨ad, rfl, hap, hcell⟩ := HS.out.get (by rw [List.length_map]; omega)
      have c1 := (HB.out.cell (by rw [add_block]; exact hap)).trans (hcell i (encStr L[i]) (by rw [List.getElem?_map, List.getElem?_eq_getElem hlt]; rfl))
      have HG : Hid (∀ w1, Calls Tryd.prog 10 #[encStr L[i]] w1 fun e w' => e = .returned (.bool (okPath L[i])) ∧ RowKit.Below w1.heap.size w1 w') := Lib.hid (fun w1 => good_any ⟨L[i].toArray⟩ (by show L[i].toArray.size < _; simpa using hxs) w1)
      have hkk : (i : Int) < (L.length : Int) := by omega
      clear hcell hap htk hG hxs
      generalize hx : L[i] = x at *
      clear hx
      cases hok : okPath x with
      | false =>
        rw [hok] at HG HTK
        clear hok
        go_wp2_with fail
        refine (HG.out _).mono ?_
        rintro e w1 ⟨rfl, hb⟩
        replace HROW := Lib.hid (own_below7 HROW.out hb)
        replace HB := Lib.hid (HB.out.trans (hb.mono HB.out.size))
        clear hb c1
        go_wp2_with fail
        go_roundw
        case rel => exact ⟨G, i + 1, by omega, by go_num, by rw [HTK.out]; simp, HROW.out, HB.out⟩
        case measure => simp [intOf]; omega
      | true =>
        rw [hok] at HG HTK
        clear hok
        go_wp2_with fail
        refine (HG.out _).mono ?_
        rintro e w1 ⟨rfl, hb⟩
        replace HROW := Lib.hid (own_below7 HROW.out hb)
        replace HB := Lib.hid (HB.out.trans (hb.mono HB.out.size))
        clear hb c1
        have HLEN : Hid ((G.map encStr).length ≤ 1000000) := Lib.hid (by rw [List.length_map]; omega)
        go_wp2_with (refine wp_addT rfl (.tmp 14) (.tmp 16) rfl (base := w.heap.size) (HROW.out.alloc (.cells #[encStr x] 9)) (by have := HB.out.size; simp; omega) rfl w1.heap.size (encStr x) rfl (by simp) rfl HLEN.out ?_; intro v3 w3 h1 h2; have HROW2 := Lib.hid h1; have HB5 := Lib.hid h2; clear h1 h2 HROW)
        go_roundw
        case rel =>
          have hrow := HROW2.out
          rw [show G.map encStr ++ [encStr x] = (G ++ [x]).map encStr by rw [List.map_append]; rfl] at hrow
          exact ⟨G ++ [x], i + 1, by omega, by go_num, by rw [HTK.out]; simp, hrow, (HB.out.alloc HB.out.size _).trans HB5.out⟩
        case measure => simp [intOf]; omega
    · have hil : i = L.length := by omega
      subst hil
      rw [List.take_length] at hG
      have k0 : ¬ (L.length : Int) < (L.length : Int) := by omega
      have hgl : G.length ≤ L.length := by rw [hG]; exact List.length_filter_le _ _
      have hgs : ∀ t ∈ G, t.length < 9223372036854775808 := fun t ht => HN.out t (by rw [hG] at ht; exact (List.mem_filter.1 ht).1)
      have HGS := Lib.hid hgs
      have HGE := Lib.hid hG
      clear hgs hG hlt
      by_cases hnil : u3 = .slice none 0 0
      · subst hnil
        have hg0 : G = [] := by
          have h1 := HROW.out
          rcases h1.2 with ⟨_, h0⟩ | ⟨g, cap, cur, e, _⟩
          · exact List.eq_nil_of_length_eq_zero (by simpa using h0)
          · cases e
        go_wp2_with (first | ((with_reducible refine (sortNone_any _ _ _ _).mono ?_); rintro e w2 ⟨rfl, rfl⟩) | ((with_reducible refine (compactNone_any _ _ _).mono ?_); rintro e w2 ⟨rfl, rfl⟩))
        go_ret
        refine ⟨⟨_, [], rfl, ⟨by simp, fun x => ?_⟩, by simp, Ts.nil _⟩, HB.out⟩
        constructor
        · intro h; cases h
        · intro h
          have : x ∈ G := by rw [HGE.out]; exact List.mem_filter.2 h
          rw [hg0] at this
          cases this
      · obtain ⟨g, cap, rfl, hbg, hgl2, hncap, hcm, hlen, hH⟩ := Lib.holds_of_ownsRow HROW.out hnil
        rw [List.length_map] at HROW hncap ⊢
        obtain ⟨cur, hbk, hcs⟩ : ∃ cur, wr.heap[g]? = some (.cells cur 9 (0, 0)) ∧ cur.size = cap * 1 := by
          rcases HROW.out.2 with ⟨h0, _⟩ | ⟨g', cap', cur, e0, _, h1, _, _, h4, _⟩
          · cases h0
          · injection e0 with e1 _ e3
            injection e1 with e1
            injection e1 with e1
            subst e1
            subst e3
            exact ⟨cur, h1, h4⟩
        have HH := Lib.hid hH
        have HBK := Lib.hid hbk
        have HCS := Lib.hid hcs
        clear hnil hlen hH hbk hcs
        go_wp2_with fail
        refine (sortFunc_any g cap G HGS.out wr HH.out hgl2 (by omega)).mono ?_
        rintro e w2 ⟨rfl, M, nn, os, hperm, hpw, hw2⟩
        have hml : M.length = G.length := hperm.length_eq
        have hH2 : Holds encStr w2 g 0 M.toArray := by
          rw [hw2]
          exact holds_grow encStr _ os g 0 _ (by simpa [putRow, mapBlock, Sort.ahead] using hgl2) (holds_putRow encStr _ g 0 G.toArray _ (holds_ahead encStr wr nn g 0 _ HH.out) (by simp [hml]))
        have hs2 : w2.ownsRow w.heap.size 9 1 (.slice (some ⟨g, 0, none⟩) G.length cap) G.length (M.map encStr) := by
          rw [hw2]
          exact ownsRow_sorted (n := nn) (os := os) (ss := G) (ts := M) hml hbg HBK.out hncap hcm HCS.out
        have hb2 : RowKit.Below w.heap.size w w2 := by
          rw [hw2]
          exact HB.out.grown (grownBy_sorted _) HB.out.size (fun j hj => by cases hj; exact hbg)
        have hcomp := compact_any g cap M w2 hH2 (by omega) (by omega)
        rw [hml] at hcomp
        have hcs := compact_srt M hpw
        have hcl := Lib.compact_length_le M
        have HCO := Lib.hid hcomp
        have HS2 := Lib.hid hs2
        have HB2 := Lib.hid hb2
        have HSR : Hid (Srt L (Lib.compact M)) := Lib.hid ⟨hcs.1, fun x => by
          rw [hcs.2, hperm.mem_iff, HGE.out, List.mem_filter]⟩
        clear hw2 hH2 hs2 hb2 hcomp hcs hpw HROW HB HBK HCS HH
        generalize hR : Lib.compact M = R at *
        go_wp2_with fail
        refine HCO.out.mono ?_
        rintro e w3 ⟨rfl, qq, hw3⟩
        have hown := Lib.ownsRow_putRow (q := qq) (k := R.length) (ys := R ++ List.replicate (G.length - R.length) []) HS2.out (by simp; omega) (by omega)
        rw [List.take_left, ← hw3] at hown
        have hb3 : RowKit.Below w.heap.size w w3 := by rw [hw3]; exact Lib.below_putRow HB2.out hbg
        have HO := Lib.hid hown
        have HB3 := Lib.hid hb3
        clear hw3 hown hb3
        go_wp2_with fail
        go_ret
        exact ⟨⟨_, R, rfl, HSR.out, by omega, Ts.own HO.out⟩, HB3.out⟩
end Go.Proofs.YtflgncagoiigfaaDoor
