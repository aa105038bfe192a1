/- Contract: recipe's Of. Conditions: at most 1000 entries, paths shorter than 2^63 bytes, all bytes together at most 2^62; the sums' tables are laid. -/
import Derived.Test.YtmjonlffhhehjaaGreatDoorBo1
import Derived.Test.YtmjonlffhhehjaaGreatDoorBt2
import Derived.Lib.BitFns
import Derived.Test.YtmjonlffhhehjaaGreatDoorProg
import Derived.Lib.Strings
import Derived.Lib.Slices
import Derived.Lib.Walk
import Derived.Lib.Hide
import Derived.WalkKit
import Derived.Laws.BitsLemmas
import Derived.Laws.Bits64
import Derived.Laws.Shifts
import Derived.Test.YtmjonlffhhehjaaGreatDoorBa1
import Derived.Lib.ConvBytes
import Derived.Test.YtmjonlffhhehjaaGreatDoorBu1
namespace Go.Proofs.YtmjonlffhhehjaaGreatDoor
open Go.RowKit
/-- The lines' names are the call's own. -/
def LnO (w : World) (base : Nat) (T : TypeId) (R : List Ln) : Prop := ∀ p ∈ R, OwnU w base T p.2.2.2.1 p.2.2.2.2
theorem LnO.keep {w w' : World} {base : Nat} {T : TypeId} {R : List Ln} (h : LnO w base T R) (hb : Below w.heap.size w w') : LnO w' base T R := fun p hp => (h p hp).keep hb
theorem LnO.grown {w w' : World} {base b : Nat} {T E : TypeId} {R M : List Ln} {v : Value} (h : LnO w base T R) (ho : OwnL w b E v M) (hE : T ≠ E) (hg : w.grownBy w' v.ownBlock) : LnO w' base T R := fun p hp => World.ownsRow.kept (h p hp) hg (own_apart (h p hp) ho hE)
theorem LnO.lnb {w : World} {base : Nat} {T : TypeId} {R : List Ln} (h : LnO w base T R) : Lnb w R := fun p hp => (h p hp).us
theorem LnO.less {w : World} {b base : Nat} {T : TypeId} {R : List Ln} (h : LnO w base T R) (hb : b ≤ base) : LnO w b T R := fun p hp => (h p hp).less hb
theorem LnO.snoc {w : World} {base : Nat} {T : TypeId} {R : List Ln} {p : Ln} (h : LnO w base T R) (hp : OwnU w base T p.2.2.2.1 p.2.2.2.2) : LnO w base T (R ++ [p]) := fun x hx => by
  rcases List.mem_append.1 hx with h1 | h1
  · exact h x h1
  · rw [List.mem_singleton.1 h1]; exact hp
theorem LnO.nil (w : World) (base : Nat) (T : TypeId) : LnO w base T [] := fun x hx => by cases hx
theorem ln_ones {w : World} {p : Ln} (h : Us w p.2.2.2.1 p.2.2.2.2) : ∀ v ∈ rowL [p], v.oneCell' = true := rowL_ones (w := w) (fun x hx => by rw [List.mem_singleton.1 hx]; exact h)
section
variable {ops : Array Oper} {rest : List Oper} {o : Oper} {a : Act} {w : World} {Q : Exit → Act → World → Prop}
/-- One line is put behind a row of the call's own. -/
theorem wpList_add_ln (hgd : o.guard = none) (T E : TypeId) (hT : ElL T E) (s x : Operand) (ho : o.op = .call { callee := .builtin .append, args := #[s, x], argTypes := #[T, T] })
    (base : Nat) (v : Value) (L : List Ln) (hs : a.eval s = v) (hown : OwnL w base E v L) (g : Nat) (p : Ln) (hx : a.eval x = .slice (some ⟨g, 0, none⟩) 1 1) (hh : Has w g E (encL p)) (hu : Us w p.2.2.2.1 p.2.2.2.2)
    (hn : L.length + 1 ≤ 1000000) (hbase : base ≤ w.heap.size)
    (h : ∀ v' w', OwnL w' base E v' (L ++ [p]) → w.grownBy w' v.ownBlock → wpList Tryz.prog ops Q rest (a.put o.dst v') w') : wpList Tryz.prog ops Q (o :: rest) a w :=
  wpList_plain hgd fun _ hK => wp_append_ln T E hT s x ho base v L hs hown (some ⟨g, 0, none⟩) [p] 1 1 (g + 1) rfl hx (fun h => by cases h) (hh.ln (Nat.lt_succ_self g)) (ln_ones hu) (by omega) hbase (fun v' w' h1 h2 => hK _ _ (h v' w' h1 h2))
end
theorem field_tree (v : Value) (w : World) : (Instr.field 28 (.agg #[v]) 0).run Tryz.prog w = .ok v w := by kernel_rfl
/-- A tree's lines: of one that may not be none. -/
def ofP (C : List Ent) : List Lk := if goodP C = true then (cleanP C).map lineP else []
theorem cleanP_len (C : List Ent) : (cleanP C).length ≤ C.length := by
  unfold cleanP; split
  · exact List.length_filter_le _ _
  · exact Nat.le_refl _
theorem cleanP_mem {C : List Ent} {e : Ent} (h : e ∈ cleanP C) : e ∈ C := by
  unfold cleanP at h; split at h
  · exact (List.mem_filter.1 h).1
  · exact h
set_option maxHeartbeats 8000000 in
set_option maxRecDepth 100000 in
theorem of12_any (C : List Ent) (q : Option Addr) (c : Nat) (w : World) (hm : C.length ≤ 1000) (hcap : C.length ≤ c) (hq : q = none → c = 0) (hb : bytesT C ≤ 4611686018427387904) (hn : ∀ e ∈ C, e.1.size < 9223372036854775808) (hs : Sees w w.heap.size q (rowC C)) (hE : Ents w C) (hL : Laid w) :
    Calls Tryz.prog 9 #[.agg #[.slice q C.length c]] w fun e w' => (∃ v R, e = .returned v ∧ LnV w' v R ∧ LnO w' w.heap.size 31 R ∧ R.map keyL = ofP C) ∧ Below w.heap.size w w' := by
  have HG := Lib.hid (fun w1 (h : Below w.heap.size w w1) => tgood_any C q c (by omega) hcap hb hn w1 ((hs.keep h).more h.size) (hE.keep h))
  have HCL := Lib.hid (fun w1 (h : Below w.heap.size w w1) => tclean_any C q c hm hcap hq hb hn w1 ((hs.keep h).more h.size) (hE.keep h))
  have HE : Hid (∀ w', Below w.heap.size w w' → Ents w' (cleanP C)) := Lib.hid (fun w' h e he => (hE.keep h) e (cleanP_mem he))
  have HL := Lib.hid hL
  have HSZ := Lib.hid hL.size
  have HB0 : Hid (Below w.heap.size w (w.alloc (.cells #[.slice q C.length c] 28))) := Lib.hid ((Below.refl _ _).alloc (Nat.le_refl _) _)
  have HX : Hid (Has (w.alloc (.cells #[.slice q C.length c] 28)) w.heap.size 28 [.slice q C.length c]) := Lib.hid (Has.made w _ _)
  have HLC := Lib.hid (cleanP_len C)
  have HBD : Hid (goodP C = true → ∀ e ∈ cleanP C, e.by.length ≤ 2048) := Lib.hid (fun h e he => okEnt_len (((goodP_iff C).1 h).2.2.1 e (cleanP_mem he)))
  obtain ⟨V, hV⟩ : ∃ V, ofP C = V := ⟨_, rfl⟩
  rw [hV]
  unfold ofP at hV
  have HV := Lib.hid hV
  clear hs hE hL hV
  generalize goodP C = GC at *
  generalize cleanP C = D at *
  go_enter Tryz.func9, Tryz.ntmps9
  cases GC with
  | false =>
    go_wp2_with ((with_reducible refine (HG.out _ HB0.out).mono ?_); rintro e w1 ⟨rfl, hb⟩; have HB := Lib.hid (HB0.out.trans (hb.mono HB0.out.size)); clear hb)
    go_ret
    have hv : V = [] := HV.out.symm
    exact ⟨⟨_, [], rfl, LnV.nil _, LnO.nil _ _ _, hv.symm⟩, HB.out⟩
  | true =>
  go_upto_region 3 with ((with_reducible refine (HG.out _ HB0.out).mono ?_); rintro e w1 ⟨rfl, hb⟩; have HB1 := Lib.hid (HB0.out.trans (hb.mono HB0.out.size)); replace HX := Lib.hid (HX.out.keep hb HX.out.lt); have cx := HX.out.cellv (i := 0) (v := .slice q C.length c) rfl; clear hb)
  go_upto_region 5 with ((with_reducible refine (HCL.out _ HB1.out).mono ?_); rintro e w2 ⟨⟨v2, rfl, q2, c2, rfl, hcd, hq2, hse⟩, hb⟩; have HB := Lib.hid (HB1.out.trans (hb.mono HB1.out.size)); have HSE := Lib.hid hse; have hfl := field_tree (.slice q2 D.length c2) w2; clear hb hse hcd hq2)
  clear hfl
  clear cx HX HG HCL HB0 HB1
  have HED := Lib.hid (HE.out _ HB.out)
  have HBY := Lib.hid (HBD.out trivial)
  have HV1 : Hid (D.map lineP = V) := Lib.hid (by simpa using HV.out)
  have HO0 := Lib.hid (OwnL.nil w2 w2.heap.size 34)
  clear HV HBD HE
  go_loopw [3, 13] (fun v vi wr => ∃ (j : Nat) (R : List Ln), j ≤ D.length ∧ R.length = j ∧ vi = .int .i64 j ∧ OwnL wr w2.heap.size 34 v R ∧ LnO wr w.heap.size 31 R ∧ R.map keyL = (D.take j).map lineP ∧ Below w2.heap.size w2 wr ∧ Below w.heap.size w wr) (fun _ vi _ => D.length - (intOf vi).toNat)
  case atStart => exact ⟨0, [], by omega, rfl, rfl, HO0.out, LnO.nil _ _ _, rfl, Below.refl _ _, HB.out⟩
  case round =>
    clear HO0
    rename_i wr
    obtain ⟨j, R, hj, hrl, rfl, hrow, hln, hkey, hB2, hB⟩ := hrel
    have HROW := Lib.hid hrow
    have HLN := Lib.hid hln
    have HKEY := Lib.hid hkey
    have HBR := Lib.hid hB2
    have HBW := Lib.hid hB
    have HRL := Lib.hid hrl
    clear hrow hln hkey hB2 hB hrl
    by_cases hlt : j < D.length
    · obtain ⟨ad, rfl, _, hcell⟩ := HSE.out.ent hlt
      obtain ⟨k0, k1, k2⟩ := hcell wr HBR.out
      obtain ⟨e, he⟩ : ∃ e, e = D[j] := ⟨_, rfl⟩
      have hmem : e ∈ D := by rw [he]; exact List.getElem_mem hlt
      have HTK : Hid ((D.take (j + 1)).map lineP = (D.take j).map lineP ++ [lineP e]) := Lib.hid (by rw [List.take_add_one, List.getElem?_eq_getElem hlt, ← he, List.map_append]; rfl)
      rw [← he] at k0 k1 k2
      have hbs := HED.out e hmem
      have hbl := HBY.out e hmem
      obtain ⟨x, d, bv, bb⟩ := e
      obtain ⟨qb, cb, hv, r1, r2, r3⟩ := hbs
      have hv' : bv = .slice qb (List.length bb) cb := hv
      subst hv'
      have HBS : Hid (Bs w2 (.slice qb bb.length cb) bb) := Lib.hid ⟨qb, cb, rfl, r1, r2, r3⟩
      have hbl' : bb.length ≤ 2048 := hbl
      have HBL := Lib.hid hbl'
      simp only [] at k0 k1 k2
      clear hcell hmem he hv hbl hbl' r1 r2 r3
      have hjj : (j : Int) < (D.length : Int) := by omega
      have kll : j < 1000000 := by have := HLC.out; omega
      go_upto_region 7 with fail
      clear k0 k1 k2
      have HBX : Hid (Below wr.heap.size wr (wr.alloc (.cells #[.string x, .bool d, .slice qb bb.length cb] 47))) := Lib.hid ((Below.refl _ _).alloc (Nat.le_refl _) _)
      have HX : Hid (Has (wr.alloc (.cells #[.string x, .bool d, .slice qb bb.length cb] 47)) wr.heap.size 47 [.string x, .bool d, .slice qb bb.length cb]) := Lib.hid (Has.made wr _ _)
      generalize wr.alloc (.cells #[.string x, .bool d, .slice qb bb.length cb] 47) = w6 at *
      have HB6 := Lib.hid (HBW.out.trans (HBX.out.mono HBW.out.size))
      have HR6 := Lib.hid (HBR.out.trans (HBX.out.mono HBR.out.size))
      have HLO := Lib.hid (lineOf_any x d qb cb bb w6 (HL.out.keep HB6.out HSZ.out) (by have := HBL.out; omega) (HBS.out.keep HR6.out))
      have HRO6 := Lib.hid (HROW.out.keep HBX.out)
      have HLN6 := Lib.hid (HLN.out.keep HBX.out)
      have c0 := HX.out.cellv (i := 0) rfl
      have c1 := HX.out.cellv (i := 1) rfl
      have c2v := HX.out.cellv (i := 2) rfl
      clear HROW HLN HBX HX HBS HBL HBW HBR
      generalize wr.heap.size = bx at *
      refine wp_region_lit ?_
      try simp only [Act.put, List.setIfInBounds_toArray, List.set_cons_zero, List.set_cons_succ]
      refine lp_pure (v := ?_) (by kernel_rfl) ?_ ?_
      rotate_left
      · go_simp; try with_reducible rfl
      try simp only [Act.put, List.setIfInBounds_toArray, List.set_cons_zero, List.set_cons_succ]
      refine lp_pure (v := ?_) (by kernel_rfl) ?_ ?_
      rotate_left
      · go_simp; try with_reducible rfl
      try simp only [Act.put, List.setIfInBounds_toArray, List.set_cons_zero, List.set_cons_succ]
      clear c0 c1 c2v
      refine lp_step (by kernel_rfl) (fun K hK => ?_)
      go_wp2_with fail
      refine Calls.mono (HLO.out) ?_
      rintro e w7 ⟨⟨p, rfl, hou, hk⟩, hb⟩
      have HB7 := Lib.hid (HB6.out.trans (hb.mono HB6.out.size))
      have HR7 := Lib.hid (HR6.out.trans (hb.mono HR6.out.size))
      have HRO7 := Lib.hid (HRO6.out.keep hb)
      have HLN7 := Lib.hid (HLN6.out.keep hb)
      have HOU := Lib.hid (hou.less HB6.out.size)
      have HK := Lib.hid hk
      clear hb hou hk HLO HRO6 HLN6 HB6 HR6
      refine hK _ _ ?_
      clear hK
      try simp only [Act.put, List.setIfInBounds_toArray, List.set_cons_zero, List.set_cons_succ]
      refine wpList_one_ln rfl 24 34 elLn (.tmp 19) rfl p rfl ?_
      try simp only [Act.put, List.setIfInBounds_toArray, List.set_cons_zero, List.set_cons_succ]
      have HA1 : Hid (Below w7.heap.size w7 (w7.alloc (.cells (encL p).toArray 34))) := Lib.hid ((Below.refl _ _).alloc (Nat.le_refl _) _)
      have HH1 : Hid (Has (w7.alloc (.cells (encL p).toArray 34)) w7.heap.size 34 (encL p)) := Lib.hid (Has.made' _ _ _ _ rfl)
      generalize w7.alloc (.cells (encL p).toArray 34) = w8 at *
      have HRO8 := Lib.hid (HRO7.out.keep HA1.out)
      have HLN8 := Lib.hid (HLN7.out.keep HA1.out)
      have HOU8 := Lib.hid (HOU.out.keep HA1.out)
      have HB8 := Lib.hid (HB7.out.trans (HA1.out.mono HB7.out.size))
      have HR8 := Lib.hid (HR7.out.trans (HA1.out.mono HR7.out.size))
      clear HRO7 HLN7 HOU HB7 HR7 HA1
      generalize w7.heap.size = b7 at *
      refine wpList_add_ln rfl 24 34 elLn (.tmp 17) (.tmp 20) rfl w2.heap.size _ R rfl HRO8.out b7 p rfl HH1.out HOU8.out.us (by have := HRL.out; have := HLC.out; omega) HR8.out.size ?_
      intro v9 w9 h1 h2
      have HRO9 := Lib.hid h1
      have HLN9 := Lib.hid ((HLN8.out.snoc HOU8.out).grown HRO8.out (by decide) h2)
      have HR9 : Hid (Below w2.heap.size w2 w9) := Lib.hid (HR8.out.trans ((Below.refl w2.heap.size w8).grown h2 HR8.out.size (fun k hk => HRO8.out.base k hk)))
      have HB9 := Lib.hid (HB.out.trans (HR9.out.mono HB.out.size))
      clear h1 h2
      try simp only [Act.put, List.setIfInBounds_toArray, List.set_cons_zero, List.set_cons_succ]
      refine lp_pure (v := ?_) (by kernel_rfl) ?_ ?_
      rotate_left
      · go_simp; try with_reducible rfl
      try simp only [Act.put, List.setIfInBounds_toArray, List.set_cons_zero, List.set_cons_succ]
      refine wpList_nil ?_
      go_wp2_with fail
      go_roundw
      case rel => exact ⟨j + 1, R ++ [p], by omega, by rw [List.length_append, HRL.out]; rfl, by go_num, HRO9.out, HLN9.out, by rw [List.map_append, HKEY.out, HTK.out]; exact congrArg _ (congrArg (fun k => [k]) HK.out), HR9.out, HB9.out⟩
      case measure => simp [intOf]; omega
    · have hjl : j = D.length := by omega
      subst hjl
      have kk : ¬ ((D.length : Int) < (D.length : Int)) := by omega
      have hk := HKEY.out
      rw [List.take_length, HV1.out] at hk
      have HK := Lib.hid hk
      clear hk
      go_wp2_with fail
      go_ret
      exact ⟨⟨_, rfl, R, HROW.out.ln, HLN.out, HK.out⟩, HBW.out⟩
end Go.Proofs.YtmjonlffhhehjaaGreatDoor
/- Plain law: how many bytes a number takes, by how many bits it has. No condition. -/
namespace Go.Proofs.YtmjonlffhhehjaaGreatDoor
theorem bitLen_pos (v : Nat) (h0 : v ≠ 0) (h : v < 2 ^ 64) : 1 ≤ Lib.bitLen v := by rw [Lib.bitLen_half v h0 h]; omega
theorem size_pos : ∀ (k v : Nat), v ≤ k → v ≠ 0 → v < 2 ^ 64 → (Lib.bitLen v + 6) / 7 = (digs v).length
  | 0, v, hk, h0, _ => absurd (Nat.le_zero.1 hk) h0
  | k + 1, v, hk, h0, h => by
    by_cases h1 : v < 128
    · rw [digs_lt v h1]
      have := Lib.bitLen_le v 7 (by omega) (by omega)
      have := bitLen_pos v h0 h
      simp; omega
    · rw [digs_ge v h1, List.length_cons, ← size_pos k (v / 128) (by omega) (by omega) (by omega)]
      have := Lib.bitLen_shift 7 v (by omega) h
      have e : v / 2 ^ 7 = v / 128 := rfl
      rw [e] at this
      omega
theorem size_len (v : Nat) (h : v < 18446744073709551616) : (Lib.bitLen (v / 2 * 2 + 1) + 6) / 7 = (digs v).length := by
  by_cases h0 : v = 0
  · subst h0; rw [digs_lt 0 (by omega)]; decide +kernel
  · rw [Lib.bitLen_half _ (by omega) (by omega), show (v / 2 * 2 + 1) / 2 = v / 2 by omega, ← Lib.bitLen_half v h0 (by omega)]
    exact size_pos v v (Nat.le_refl _) h0 (by omega)
end Go.Proofs.YtmjonlffhhehjaaGreatDoor
/- Contract: bits.Len64: how many bits a number has. No condition but that it is a number of 64 bits. -/
namespace Go.Proofs.YtmjonlffhhehjaaGreatDoor
open Go.RowKit
theorem tab_run (y : Int) (w : World) (h0 : 0 ≤ y) (h1 : y < 256) : (Instr.index 9 (.string Lib.len8tab) (.int .u8 y)).run Tryz.prog w = .ok (.int .u8 (Lib.bitLen y.toNat)) w := by
  rw [Lib.run_index_len8tab (h := Tryz.underlying9) (h0 := h0) (h1 := by omega), Lib.len8_of y h0 (by omega)]
theorem len_fin (x y : Int) (s : Nat) (hy : y.toNat = x.toNat / 2 ^ s) (h : 2 ^ s ≤ x.toNat) (hx : x.toNat < 18446744073709551616) : (s : Int) + (Lib.bitLen y.toNat : Int) = (Lib.bitLen x.toNat : Int) := by
  rw [Lib.bitLen_shift s x.toNat h (by omega), hy]; simp
set_option maxHeartbeats 4000000 in
set_option maxRecDepth 100000 in
theorem len64_any (x : Int) (w : World) (h0 : 0 ≤ x) (h1 : x ≤ 18446744073709551615) :
    Calls Tryz.prog 140 #[.int .u64 x] w fun e w' => e = .returned (.int .i64 (Lib.bitLen x.toNat)) ∧ w = w' := by
  by_cases a : 4294967296 ≤ x
  · by_cases b : 65536 ≤ x / 4294967296
    · by_cases c : 256 ≤ x / 4294967296 / 65536
      · have t := tab_run (x / 4294967296 / 65536 / 256) w (by omega) (by omega)
        have l := Lib.bitLen_le8' (x / 4294967296 / 65536 / 256) (by omega) (by omega)
        have H := Lib.hid (len_fin x (x / 4294967296 / 65536 / 256) 56 (by omega) (by omega) (by omega))
        generalize Lib.bitLen (x / 4294967296 / 65536 / 256).toNat = n at t l H
        have l0 : (0 : Int) ≤ (n : Int) := by omega
        have l1 : (n : Int) ≤ 8 := by omega
        clear l
        go_enter Tryz.func140, Tryz.ntmps140
        go_wp2
        go_ret
        exact ⟨congrArg Ending.returned (congrArg (Value.int IntKind.i64) (by have := H.out; omega)), rfl⟩
      · have t := tab_run (x / 4294967296 / 65536) w (by omega) (by omega)
        have l := Lib.bitLen_le8' (x / 4294967296 / 65536) (by omega) (by omega)
        have H := Lib.hid (len_fin x (x / 4294967296 / 65536) 48 (by omega) (by omega) (by omega))
        generalize Lib.bitLen (x / 4294967296 / 65536).toNat = n at t l H
        have l0 : (0 : Int) ≤ (n : Int) := by omega
        have l1 : (n : Int) ≤ 8 := by omega
        clear l
        go_enter Tryz.func140, Tryz.ntmps140
        go_wp2
        go_ret
        exact ⟨congrArg Ending.returned (congrArg (Value.int IntKind.i64) (by have := H.out; omega)), rfl⟩
    · by_cases c : 256 ≤ x / 4294967296
      · have t := tab_run (x / 4294967296 / 256) w (by omega) (by omega)
        have l := Lib.bitLen_le8' (x / 4294967296 / 256) (by omega) (by omega)
        have H := Lib.hid (len_fin x (x / 4294967296 / 256) 40 (by omega) (by omega) (by omega))
        generalize Lib.bitLen (x / 4294967296 / 256).toNat = n at t l H
        have l0 : (0 : Int) ≤ (n : Int) := by omega
        have l1 : (n : Int) ≤ 8 := by omega
        clear l
        go_enter Tryz.func140, Tryz.ntmps140
        go_wp2
        go_ret
        exact ⟨congrArg Ending.returned (congrArg (Value.int IntKind.i64) (by have := H.out; omega)), rfl⟩
      · have t := tab_run (x / 4294967296) w (by omega) (by omega)
        have l := Lib.bitLen_le8' (x / 4294967296) (by omega) (by omega)
        have H := Lib.hid (len_fin x (x / 4294967296) 32 (by omega) (by omega) (by omega))
        generalize Lib.bitLen (x / 4294967296).toNat = n at t l H
        have l0 : (0 : Int) ≤ (n : Int) := by omega
        have l1 : (n : Int) ≤ 8 := by omega
        clear l
        go_enter Tryz.func140, Tryz.ntmps140
        go_wp2
        go_ret
        exact ⟨congrArg Ending.returned (congrArg (Value.int IntKind.i64) (by have := H.out; omega)), rfl⟩
  · by_cases b : 65536 ≤ x
    · by_cases c : 256 ≤ x / 65536
      · have t := tab_run (x / 65536 / 256) w (by omega) (by omega)
        have l := Lib.bitLen_le8' (x / 65536 / 256) (by omega) (by omega)
        have H := Lib.hid (len_fin x (x / 65536 / 256) 24 (by omega) (by omega) (by omega))
        generalize Lib.bitLen (x / 65536 / 256).toNat = n at t l H
        have l0 : (0 : Int) ≤ (n : Int) := by omega
        have l1 : (n : Int) ≤ 8 := by omega
        clear l
        go_enter Tryz.func140, Tryz.ntmps140
        go_wp2
        go_ret
        exact ⟨congrArg Ending.returned (congrArg (Value.int IntKind.i64) (by have := H.out; omega)), rfl⟩
      · have t := tab_run (x / 65536) w (by omega) (by omega)
        have l := Lib.bitLen_le8' (x / 65536) (by omega) (by omega)
        have H := Lib.hid (len_fin x (x / 65536) 16 (by omega) (by omega) (by omega))
        generalize Lib.bitLen (x / 65536).toNat = n at t l H
        have l0 : (0 : Int) ≤ (n : Int) := by omega
        have l1 : (n : Int) ≤ 8 := by omega
        clear l
        go_enter Tryz.func140, Tryz.ntmps140
        go_wp2
        go_ret
        exact ⟨congrArg Ending.returned (congrArg (Value.int IntKind.i64) (by have := H.out; omega)), rfl⟩
    · by_cases c : 256 ≤ x
      · have t := tab_run (x / 256) w (by omega) (by omega)
        have l := Lib.bitLen_le8' (x / 256) (by omega) (by omega)
        have H := Lib.hid (len_fin x (x / 256) 8 (by omega) (by omega) (by omega))
        generalize Lib.bitLen (x / 256).toNat = n at t l H
        have l0 : (0 : Int) ≤ (n : Int) := by omega
        have l1 : (n : Int) ≤ 8 := by omega
        clear l
        go_enter Tryz.func140, Tryz.ntmps140
        go_wp2
        go_ret
        exact ⟨congrArg Ending.returned (congrArg (Value.int IntKind.i64) (by have := H.out; omega)), rfl⟩
      · have t := tab_run (x) w (by omega) (by omega)
        have l := Lib.bitLen_le8' (x) (by omega) (by omega)
        have H : Hid ((0 : Int) + (Lib.bitLen x.toNat : Int) = (Lib.bitLen x.toNat : Int)) := Lib.hid (by omega)
        generalize Lib.bitLen x.toNat = n at t l H ⊢
        have l0 : (0 : Int) ≤ (n : Int) := by omega
        have l1 : (n : Int) ≤ 8 := by omega
        clear l
        go_enter Tryz.func140, Tryz.ntmps140
        go_wp2
        go_ret
        exact ⟨congrArg Ending.returned (congrArg (Value.int IntKind.i64) (by have := H.out; omega)), rfl⟩
end Go.Proofs.YtmjonlffhhehjaaGreatDoor
/- Plain laws: Go's bit arithmetic on bytes and on numbers of 64 bits, as this layer uses it. No condition. -/
namespace Go.Proofs.YtmjonlffhhehjaaGreatDoor
theorem wraps_u64 (n : Int) (h₀ : 0 ≤ n) (h₁ : n < 2 ^ 64) : IntKind.u64.wrap n = n := by rw [IntKind.wrap_u64]; omega
theorem wraps_i64 (n : Int) (h₀ : -9223372036854775808 ≤ n) (h₁ : n < 9223372036854775808) : IntKind.i64.wrap n = n := by rw [IntKind.wrap_i64]; omega
theorem or128 : ∀ n : Nat, n < 256 → n ||| 128 = n % 128 + 128 := by decide +kernel
theorem and128 : ∀ n : Nat, n < 256 → n &&& 128 = n / 128 * 128 := by decide +kernel
theorem and127 : ∀ n : Nat, n < 256 → n &&& 127 = n % 128 := by decide +kernel
theorem u8_or128' (n : Nat) (h : n < 256) : bits .or .u8 (n : Int) 128 = ((n % 128 + 128 : Nat) : Int) := by
  have := (bits_nat .u8 8 (by decide) wraps_u8 n 128 (by omega) (by omega)).2
  rw [or128 n h] at this
  exact this
theorem u8_and128 (n : Nat) (h : n < 256) : bits .and .u8 (n : Int) 128 = ((n / 128 * 128 : Nat) : Int) := by
  have := (bits_nat .u8 8 (by decide) wraps_u8 n 128 (by omega) (by omega)).1
  rw [and128 n h] at this
  exact this
theorem u8_and127 (n : Nat) (h : n < 256) : bits .and .u8 (n : Int) 127 = ((n % 128 : Nat) : Int) := by
  have := (bits_nat .u8 8 (by decide) wraps_u8 n 127 (by omega) (by omega)).1
  rw [and127 n h] at this
  exact this
theorem andNot128 : ∀ n : Nat, n < 256 → bits .andNot .u8 (n : Int) 128 = ((n % 128 : Nat) : Int) := by decide +kernel
theorem shl7 (d i : Nat) (yk : IntKind) (y : Int) (hy : y = ((7 * i : Nat) : Int)) (hi : i ≤ 9) (hd : d * 128 ^ i < 18446744073709551616) : Op.shift .shl .u64 (d : Int) yk y = pure (.int .u64 ((d * 128 ^ i : Nat) : Int)) := by
  subst hy
  have e : min ((7 * i : Nat) : Int).toNat IntKind.u64.bits = 7 * i := by show min _ 64 = 7 * i; omega
  have h2 : (d : Int) * 2 ^ (7 * i) = ((d * 128 ^ i : Nat) : Int) := by rw [show (128 : Nat) ^ i = 2 ^ (7 * i) by rw [Nat.pow_mul]]; simp
  rw [shift_shl_any _ _ _ _ (by omega), e, h2, wraps_u64 _ (by omega) (by omega)]
theorem shl7w (d i : Nat) (hd : d * 128 ^ i < 18446744073709551616) : IntKind.u64.wrap ((d : Int) * 2 ^ (7 * i)) = ((d * 128 ^ i : Nat) : Int) := by
  have h2 : (d : Int) * 2 ^ (7 * i) = ((d * 128 ^ i : Nat) : Int) := by rw [show (128 : Nat) ^ i = 2 ^ (7 * i) by rw [Nat.pow_mul]]; simp
  rw [h2, wraps_u64 _ (by omega) (by omega)]
theorem u64_join (i a d : Nat) (ha : a < 128 ^ i) (hd : a + d * 128 ^ i < 18446744073709551616) : bits .or .u64 (a : Int) ((d * 128 ^ i : Nat) : Int) = ((a + d * 128 ^ i : Nat) : Int) := by
  have hp : (128 : Nat) ^ i = 2 ^ (7 * i) := by rw [Nat.pow_mul]
  have h1 := (bits_nat .u64 64 (by decide) wraps_u64 a (d * 128 ^ i) (by omega) (by omega)).2
  rw [h1, hp, Nat.or_comm, Nat.mul_comm d, ← Nat.two_pow_add_eq_or_of_lt (by rw [← hp]; exact ha), Nat.add_comm]
theorem u64_and1 (n : Nat) (h : n < 18446744073709551616) : bits .and .u64 (n : Int) 1 = ((n % 2 : Nat) : Int) := by
  have := (bits_nat .u64 64 (by decide) wraps_u64 n 1 (by omega) (by omega)).1
  rw [Nat.and_one_is_mod] at this
  exact this
theorem u64_or1 (n : Nat) (h : n < 18446744073709551616) : bits .or .u64 (n : Int) 1 = ((n / 2 * 2 + 1 : Nat) : Int) := by
  have h1 := (bits_nat .u64 64 (by decide) wraps_u64 n 1 (by omega) (by omega)).2
  have h2 : n ||| 1 = n / 2 * 2 + 1 := by
    apply Nat.eq_of_testBit_eq
    intro i
    rcases i with _ | i
    · simp [Nat.testBit_zero]
    · rw [Nat.testBit_or, Nat.testBit_succ, Nat.testBit_succ, Nat.testBit_succ]
      have e1 : (n / 2 * 2 + 1) / 2 = n / 2 := by omega
      rw [e1]; simp
  rw [h2] at h1
  exact h1
theorem u64_xor0 (n : Nat) (h : n < 18446744073709551616) : bits .xor .u64 (n : Int) 0 = (n : Int) := by
  have := bits_xor_u64_nat n 0 h (by omega)
  rw [Nat.xor_zero] at this
  exact this
theorem u64_xorAll (n : Nat) (h : n < 18446744073709551616) : bits .xor .u64 (n : Int) 18446744073709551615 = ((18446744073709551615 - n : Nat) : Int) := by
  have h1 := bits_xor_u64_nat n 18446744073709551615 h (by omega)
  have h2 : n ^^^ 18446744073709551615 = 18446744073709551615 - n := by
    have e := BitVec.toNat_not (x := BitVec.ofNat 64 n)
    rw [← BitVec.xor_allOnes, BitVec.toNat_xor, BitVec.toNat_ofNat, Nat.mod_eq_of_lt h] at e
    exact e
  rw [h2] at h1
  exact h1
end Go.Proofs.YtmjonlffhhehjaaGreatDoor
/- Contracts: num.Size, signs, Fold, Open. No condition but that a number is one of 64 bits. -/
namespace Go.Proofs.YtmjonlffhhehjaaGreatDoor
open Go.RowKit
set_option maxHeartbeats 400000 in
theorem size_any (v : Nat) (w : World) (hv : v < 18446744073709551616) :
    Calls Tryz.prog 117 #[.int .u64 (v : Int)] w fun e w' => e = .returned (.int .i64 ((digs v).length : Int)) ∧ w = w' := by
  have hs := size_len v hv
  have hb := Lib.bitLen_le (v / 2 * 2 + 1) 64 (by omega) (by omega)
  have k1 := u64_or1 v hv
  have hc := len64_any ((v / 2 * 2 + 1 : Nat) : Int) w (by omega) (by omega)
  rw [Int.toNat_natCast] at hc
  obtain ⟨m, hm⟩ : ∃ m, m = v / 2 * 2 + 1 := ⟨_, rfl⟩
  rw [← hm] at hs hb k1 hc
  obtain ⟨n, hn⟩ : ∃ n, n = Lib.bitLen m := ⟨_, rfl⟩
  rw [← hn] at hs hb hc
  obtain ⟨d, hd⟩ : ∃ d, d = (digs v).length := ⟨_, rfl⟩
  rw [← hd] at hs ⊢
  have HS := Lib.hid hs
  have HC := Lib.hid hc
  clear hm hn hd hs hc
  have n0 : (0 : Int) ≤ (n : Int) := by omega
  have n1 : (n : Int) ≤ 64 := by omega
  clear hb hv
  go_enter Tryz.func117, Tryz.ntmps117
  go_wp2_with ((with_reducible refine HC.out.mono ?_); rintro e w1 ⟨rfl, rfl⟩)
  go_ret
  exact ⟨congrArg Ending.returned (congrArg (Value.int IntKind.i64) (by have := HS.out; omega)), rfl⟩
/-- A number with a sign as such without. -/
def foldI (v : Int) : Int := if v < 0 then -2 * v - 1 else 2 * v
def openI (v : Nat) : Int := if v % 2 = 1 then -((v / 2 : Nat) : Int) - 1 else ((v / 2 : Nat) : Int)
end Go.Proofs.YtmjonlffhhehjaaGreatDoor
/- Contracts: num.write, withRoom: a number behind what a new row holds. Conditions: a number of 64 bits; fewer than 2^47 bytes. -/
namespace Go.Proofs.YtmjonlffhhehjaaGreatDoor
open Go.RowKit
theorem lit_seesW (w : World) (x : BitVec 8) (v : Value) (hv : v = u8v x) : Sees (w.alloc (.cells #[v] 5)) (w.heap.size + 1) (some ⟨w.heap.size, 0, none⟩) ([x].map u8v) := by
  subst hv
  exact Sees.of_has (Has.made' w 5 #[u8v x] _ rfl) (Nat.lt_succ_self _)
/-- What a call hands back that writes on behind a new row. -/
def Wrote (base : Nat) (w : World) (n : Nat) (xs : List Value) (e : Ending) (w' : World) : Prop := ∃ v, e = .returned v ∧ w'.ownsRow base 5 1 v n xs ∧ Below base w w'
/-- The head of the loop: what is written, what is still to be. -/
def Heads (base : Nat) (w : World) (n : Nat) (xs : List Value) (v : Nat) (s i : Value) (wr : World) : Prop :=
  ∃ (u : Nat) (pre : List (BitVec 8)), i = .int .u64 (u : Int) ∧ u < 18446744073709551616 ∧ pre ++ digs u = digs v ∧ wr.ownsRow base 5 1 s (n + pre.length) (xs ++ pre.map u8v) ∧ Below base w wr
set_option maxHeartbeats 1000000 in
theorem write_any (v base n : Nat) (xs : List Value) (s : Value) (w : World) (hv : v < 18446744073709551616) (ho : w.ownsRow base 5 1 s n xs) (hb : base ≤ w.heap.size) (hn : n ≤ 140737488355300) :
    Calls Tryz.prog 115 #[s, .int .u64 (v : Int)] w (Wrote base w (n + (digs v).length) (xs ++ (digs v).map u8v)) := by
  have hl := digs_len10 v hv
  have h0 : Heads base w n xs v s (.int .u64 (v : Int)) w := ⟨v, [], rfl, hv, rfl, by simpa using ho, Below.refl _ _⟩
  have H0 := Lib.hid h0
  have HL := Lib.hid hl
  clear h0 ho hl
  go_enter Tryz.func115, Tryz.ntmps115
  go_wp2_with fail
  go_loopw [0, 1] (fun s i wr => Heads base w n xs v s i wr) (fun _ i _ => (intOf i).toNat)
  case atStart => exact H0.out
  case round =>
    clear H0
    rename_i wr
    obtain ⟨u, pre, rfl, hu, hp, ho, hB⟩ := hrel
    have hsz := hB.size
    have k1 : IntKind.u8.wrap (u : Int) = ((u % 256 : Nat) : Int) := by rw [IntKind.wrap_u8]; omega
    by_cases hlt : u < 128
    · rw [digs_lt u hlt] at hp
      have k2 : ((u % 256 : Nat) : Int) = B (by8 u) := by unfold B; rw [by8_toNat u (by omega)]; omega
      rw [k2] at k1
      have hlen : pre.length + 1 ≤ 10 := by have := congrArg List.length hp; have := HL.out; simp at *; omega
      have k3 : ¬ (128 : Int) ≤ (u : Int) := by omega
      have HO := Lib.hid ho
      have HP := Lib.hid hp
      have HB := Lib.hid hB
      have HS := Lib.hid (lit_seesW wr (by8 u) (.int .u8 (B (by8 u))) rfl)
      clear ho hp hB k2 hlt HL
      go_wp2_with (at_builtin; refine wpList_append_sees rfl _ _ rfl base _ _ _ rfl (HO.out.alloc _) (some ⟨wr.heap.size, 0, none⟩) [by8 u] 1 (wr.heap.size + 1) rfl (fun h => by cases h) HS.out (by simp; omega) (by simp; omega) ?_; intro v1 w1 h1 h2; have H1 := Lib.hid h1; have H2 := Lib.hid (((HB.out.alloc (by omega) _)).trans (h2.mono (by omega))); clear h1 h2)
      go_ret
      refine ⟨v1, rfl, ?_, H2.out⟩
      have h := H1.out
      rw [← HP.out, List.length_append, ← Nat.add_assoc, List.map_append, ← List.append_assoc]
      exact h
    · rw [digs_ge u hlt] at hp
      have k2 := u8_or128' (u % 256) (by omega)
      have k4 : ((u % 256 % 128 + 128 : Nat) : Int) = B (by8 (u % 128 + 128)) := by unfold B; rw [by8_toNat _ (by omega)]; omega
      rw [k4] at k2
      have k3 : (128 : Int) ≤ (u : Int) := by omega
      have k5 : (u : Int) / 128 = ((u / 128 : Nat) : Int) := by omega
      have hlen : pre.length + 2 ≤ 10 := by have := congrArg List.length hp; have := HL.out; have := digs_pos (u / 128); simp at *; omega
      have HU : Hid (u / 128 < 18446744073709551616 ∧ u / 128 < u) := Lib.hid (by omega)
      have HO := Lib.hid ho
      have HP := Lib.hid hp
      have HB := Lib.hid hB
      have HS := Lib.hid (lit_seesW wr (by8 (u % 128 + 128)) (.int .u8 (B (by8 (u % 128 + 128)))) rfl)
      clear ho hp hB k4 hlt HL
      generalize by8 (u % 128 + 128) = x at *
      generalize u % 256 = c at *
      generalize u / 128 = u' at *
      go_wp2_with (at_builtin; refine wpList_append_sees rfl _ _ rfl base _ _ _ rfl (HO.out.alloc _) (some ⟨wr.heap.size, 0, none⟩) [x] 1 (wr.heap.size + 1) rfl (fun h => by cases h) HS.out (by simp; omega) (by simp; omega) ?_; intro v1 w1 h1 h2; have H1 := Lib.hid h1; have H2 := Lib.hid (((HB.out.alloc (by omega) _)).trans (h2.mono (by omega))); clear h1 h2)
      go_roundw
      case rel =>
        refine ⟨u', pre ++ [x], rfl, HU.out.1, by rw [List.append_assoc]; exact HP.out, ?_, H2.out⟩
        have h := H1.out
        rw [List.length_append, ← Nat.add_assoc, List.map_append, ← List.append_assoc]
        exact h
      case measure => have := HU.out.2; simp [intOf]; omega
set_option maxHeartbeats 400000 in
theorem withRoom_any (x : List (BitVec 8)) (q : Option Addr) (c k : Nat) (w : World) (hs : Sees w w.heap.size q (x.map u8v)) (hq : q = none → c = 0) (hl : x.length + k ≤ 140737488355328) :
    Calls Tryz.prog 116 #[.slice q x.length c, .int .i64 (k : Int)] w (Wrote w.heap.size w x.length (x.map u8v)) := by
  have hmk := made_run (x.length + k) (by omega)
  have k1 : ((x.length + k : Nat) : Int) = (x.length : Int) + (k : Int) := by omega
  rw [k1] at hmk
  have HO := Lib.hid (made_own (x.length + k) (by omega) w w.heap.size (Nat.le_refl _))
  have hB : Below w.heap.size w (w.alloc (.cells (madeCells #[Value.int .u8 0] (x.length + k)) 5)) := (Below.refl _ _).alloc (Nat.le_refl _) _
  have HB := Lib.hid hB
  have HS := Lib.hid (hs.keep hB)
  have HQ := Lib.hid hq
  clear hs hq hB k1
  go_enter Tryz.func116, Tryz.ntmps116
  go_wp2_with (at_builtin; refine wpList_append_sees rfl _ _ rfl w.heap.size _ 0 [] rfl HO.out q x c w.heap.size rfl HQ.out HS.out (by omega) HB.out.size ?_; intro v1 w1 h1 h2; have H1 := Lib.hid h1; have H2 := Lib.hid (HB.out.trans h2); clear h1 h2)
  go_ret
  have h := H1.out
  rw [List.nil_append, Nat.zero_add] at h
  exact ⟨v1, rfl, h, H2.out⟩
end Go.Proofs.YtmjonlffhhehjaaGreatDoor
/- Contracts: num.Put: what was there, and the number's bytes behind it, in new memory. Conditions: a number of 64 bits; fewer than 2^46 bytes. -/
namespace Go.Proofs.YtmjonlffhhehjaaGreatDoor
open Go.RowKit
set_option maxHeartbeats 1000000 in
theorem put_any (x : List (BitVec 8)) (q : Option Addr) (c v : Nat) (w : World) (hs : Sees w w.heap.size q (x.map u8v)) (hq : q = none → c = 0) (hl : x.length ≤ 70368744177664) (hv : v < 18446744073709551616) :
    Calls Tryz.prog 84 #[.slice q x.length c, .int .u64 (v : Int)] w (Gives w (x ++ digs v)) := by
  have hd := digs_len10 v hv
  have h1 := size_any v w hv
  have h2 := withRoom_any x q c (digs v).length w hs hq (by omega)
  have H3 : Hid (∀ (s : Value) (w1 : World), w1.ownsRow w.heap.size 5 1 s x.length (x.map u8v) → Below w.heap.size w w1 → Calls Tryz.prog 115 #[s, .int .u64 (v : Int)] w1 (Wrote w.heap.size w1 (x.length + (digs v).length) (x.map u8v ++ (digs v).map u8v))) := Lib.hid (fun s w1 ho hb => write_any v w.heap.size x.length _ s w1 hv ho hb.size (by omega))
  have H1 := Lib.hid h1
  have H2 := Lib.hid h2
  clear hd h1 h2 hs hq
  go_enter Tryz.func84, Tryz.ntmps84
  go_wp2_with fail
  refine H1.out.mono ?_
  rintro e w1 ⟨rfl, rfl⟩
  go_wp2_with fail
  refine H2.out.mono ?_
  rintro e w1 ⟨s, rfl, ho, hb⟩
  have H4 := Lib.hid (H3.out s w1 ho hb)
  have HB := Lib.hid hb
  clear ho hb H1 H2
  go_wp2_with fail
  refine H4.out.mono ?_
  rintro e w2 ⟨s2, rfl, ho, hb⟩
  have HO := Lib.hid ho
  have HB2 := Lib.hid (HB.out.trans hb)
  clear ho hb H4 H3
  go_wp2_with fail
  go_ret
  refine ⟨s2, rfl, Bs.own (base := w.heap.size) (n := x.length + (digs v).length) ?_, HB2.out⟩
  rw [List.map_append]
  exact HO.out
end Go.Proofs.YtmjonlffhhehjaaGreatDoor
/- Contract: num.PutBytes: what was there, how many bytes, and they, in new memory. Condition: fewer than 2^45 bytes. -/
namespace Go.Proofs.YtmjonlffhhehjaaGreatDoor
open Go.RowKit
set_option maxHeartbeats 1000000 in
theorem putBytes_any (x : List (BitVec 8)) (q : Option Addr) (c : Nat) (y : List (BitVec 8)) (p : Option Addr) (d : Nat) (w : World) (hs : Sees w w.heap.size q (x.map u8v)) (hq : q = none → c = 0) (hl : x.length ≤ 35184372088832)
    (hy : Sees w w.heap.size p (y.map u8v)) (hp : p = none → d = 0) (hyl : y.length ≤ 35184372088832) :
    Calls Tryz.prog 83 #[.slice q x.length c, .slice p y.length d] w (Gives w (x ++ digs y.length ++ y)) := by
  have hd := digs_len10 y.length (by omega)
  have h1 := size_any y.length w (by omega)
  have h2 := withRoom_any x q c ((digs y.length).length + y.length) w hs hq (by omega)
  have k1 : (((digs y.length).length + y.length : Nat) : Int) = ((digs y.length).length : Int) + (y.length : Int) := by omega
  have k2 : IntKind.u64.wrap (y.length : Int) = (y.length : Int) := wraps_u64 _ (by omega) (by omega)
  rw [k1] at h2
  have H3 : Hid (∀ (s : Value) (w1 : World), w1.ownsRow w.heap.size 5 1 s x.length (x.map u8v) → Below w.heap.size w w1 → Calls Tryz.prog 115 #[s, .int .u64 (y.length : Int)] w1 (Wrote w.heap.size w1 (x.length + (digs y.length).length) (x.map u8v ++ (digs y.length).map u8v))) := Lib.hid (fun s w1 ho hb => write_any y.length w.heap.size x.length _ s w1 (by omega) ho hb.size (by omega))
  have HE : Hid (x.map u8v ++ (digs y.length).map u8v ++ y.map u8v = (x ++ digs y.length ++ y).map u8v) := Lib.hid (by rw [List.map_append, List.map_append])
  have H1 := Lib.hid h1
  have H2 := Lib.hid h2
  have HY := Lib.hid hy
  have HP := Lib.hid hp
  clear h1 h2 hs hq k1 hy hp
  go_enter Tryz.func83, Tryz.ntmps83
  go_wp2_with fail
  refine H1.out.mono ?_
  rintro e w1 ⟨rfl, rfl⟩
  go_wp2_with fail
  refine H2.out.mono ?_
  rintro e w1 ⟨s, rfl, ho, hb⟩
  have H4 := Lib.hid (H3.out s w1 ho hb)
  have HB := Lib.hid hb
  clear ho hb H1 H2
  go_wp2_with fail
  refine H4.out.mono ?_
  rintro e w2 ⟨s2, rfl, ho, hb⟩
  have HO := Lib.hid ho
  have HB2 := Lib.hid (HB.out.trans hb)
  have HS2 := Lib.hid (HY.out.keep HB2.out)
  clear ho hb H4 H3
  go_wp2_with (at_builtin; refine wpList_append_sees rfl _ _ rfl w.heap.size _ _ _ rfl HO.out p y d w.heap.size rfl HP.out HS2.out (by omega) HB2.out.size ?_; intro v3 w3 h1 h2; have H5 := Lib.hid h1; have HB3 := Lib.hid (HB2.out.trans h2); clear h1 h2)
  go_ret
  refine ⟨v3, rfl, Bs.own (base := w.heap.size) (n := x.length + (digs y.length).length + y.length) ?_, HB3.out⟩
  have h := H5.out
  rw [HE.out] at h
  exact h
end Go.Proofs.YtmjonlffhhehjaaGreatDoor
/- Contracts: num's Put and PutBytes answer rows of the call's own. Conditions: as theirs. -/
namespace Go.Proofs.YtmjonlffhhehjaaGreatDoor
open Go.RowKit
/-- A row of bytes of the call's own. -/
def OwB (w : World) (base : Nat) (v : Value) (x : List (BitVec 8)) : Prop := w.ownsRow base 5 1 v x.length (x.map u8v)
theorem OwB.keep {w w' : World} {base : Nat} {v : Value} {x : List (BitVec 8)} (h : OwB w base v x) (hb : Below w.heap.size w w') : OwB w' base v x := own_keep h hb (fun _ hk => hk)
theorem OwB.bs {w : World} {base : Nat} {v : Value} {x : List (BitVec 8)} (h : OwB w base v x) : Bs w v x := Bs.own h
theorem OwB.less {w : World} {b base : Nat} {v : Value} {x : List (BitVec 8)} (h : OwB w base v x) (hb : b ≤ base) : OwB w b v x := by
  rcases h.2 with ⟨rfl, h0⟩ | ⟨g', cap, cur, rfl, hb', r⟩
  · exact ⟨h.1, .inl ⟨rfl, h0⟩⟩
  · exact ⟨h.1, .inr ⟨g', cap, cur, rfl, by omega, r⟩⟩
theorem OwB.nil (w : World) (base : Nat) : OwB w base (.slice none 0 0) [] := World.ownsRow_nil w base 5 1
/-- A call answers a row of bytes of its own. -/
def GiveO (w : World) (x : List (BitVec 8)) (e : Ending) (w' : World) : Prop := ∃ v, e = .returned v ∧ OwB w' w.heap.size v x ∧ Below w.heap.size w w'
/-- Bytes put behind such a row. -/
theorem wpList_add_b {ops : Array Oper} {rest : List Oper} {o : Oper} {a : Act} {w : World} {Q : Exit → Act → World → Prop} (hgd : o.guard = none) (s x : Operand)
    (ho : o.op = .call { callee := .builtin .append, args := #[s, x], argTypes := #[40, 40] })
    (base : Nat) (v : Value) (y : List (BitVec 8)) (hs : a.eval s = v) (hown : OwB w base v y)
    (q : Option Addr) (l : List (BitVec 8)) (n cap : Nat) (hn : l.length = n) (hx : a.eval x = .slice q n cap) (hq : q = none → cap = 0) (hl : Sees w w.heap.size q (l.map u8v))
    (hbytes : y.length + l.length ≤ 140737488355328) (hbase : base ≤ w.heap.size)
    (h : ∀ v' w', OwB w' base v' (y ++ l) → Below base w w' → wpList Tryz.prog ops Q rest (a.put o.dst v') w') : wpList Tryz.prog ops Q (o :: rest) a w := by
  subst hn
  exact wpList_append_sees hgd s x ho base v y.length (y.map u8v) hs hown q l cap w.heap.size hx hq hl hbytes hbase (fun v' w' h1 h2 => h v' w' (by unfold OwB; rw [List.length_append, List.map_append]; exact h1) h2)
set_option maxHeartbeats 1000000 in
theorem put_own (x : List (BitVec 8)) (q : Option Addr) (c v : Nat) (w : World) (hs : Sees w w.heap.size q (x.map u8v)) (hq : q = none → c = 0) (hl : x.length ≤ 70368744177664) (hv : v < 18446744073709551616) :
    Calls Tryz.prog 84 #[.slice q x.length c, .int .u64 (v : Int)] w (GiveO w (x ++ digs v)) := by
  have hd := digs_len10 v hv
  have h1 := size_any v w hv
  have h2 := withRoom_any x q c (digs v).length w hs hq (by omega)
  have H3 : Hid (∀ (s : Value) (w1 : World), w1.ownsRow w.heap.size 5 1 s x.length (x.map u8v) → Below w.heap.size w w1 → Calls Tryz.prog 115 #[s, .int .u64 (v : Int)] w1 (Wrote w.heap.size w1 (x.length + (digs v).length) (x.map u8v ++ (digs v).map u8v))) := Lib.hid (fun s w1 ho hb => write_any v w.heap.size x.length _ s w1 hv ho hb.size (by omega))
  have H1 := Lib.hid h1
  have H2 := Lib.hid h2
  clear hd h1 h2 hs hq
  go_enter Tryz.func84, Tryz.ntmps84
  go_wp2_with fail
  refine H1.out.mono ?_
  rintro e w1 ⟨rfl, rfl⟩
  go_wp2_with fail
  refine H2.out.mono ?_
  rintro e w1 ⟨s, rfl, ho, hb⟩
  have H4 := Lib.hid (H3.out s w1 ho hb)
  have HB := Lib.hid hb
  clear ho hb H1 H2
  go_wp2_with fail
  refine H4.out.mono ?_
  rintro e w2 ⟨s2, rfl, ho, hb⟩
  have HO := Lib.hid ho
  have HB2 := Lib.hid (HB.out.trans hb)
  clear ho hb H4 H3
  go_wp2_with fail
  go_ret
  refine ⟨s2, rfl, ?_, HB2.out⟩
  unfold OwB
  rw [List.map_append, List.length_append]
  exact HO.out
set_option maxHeartbeats 1000000 in
theorem putBytes_own (x : List (BitVec 8)) (q : Option Addr) (c : Nat) (y : List (BitVec 8)) (p : Option Addr) (d : Nat) (w : World) (hs : Sees w w.heap.size q (x.map u8v)) (hq : q = none → c = 0) (hl : x.length ≤ 35184372088832)
    (hy : Sees w w.heap.size p (y.map u8v)) (hp : p = none → d = 0) (hyl : y.length ≤ 35184372088832) :
    Calls Tryz.prog 83 #[.slice q x.length c, .slice p y.length d] w (GiveO w (x ++ digs y.length ++ y)) := by
  have hd := digs_len10 y.length (by omega)
  have h1 := size_any y.length w (by omega)
  have h2 := withRoom_any x q c ((digs y.length).length + y.length) w hs hq (by omega)
  have k1 : (((digs y.length).length + y.length : Nat) : Int) = ((digs y.length).length : Int) + (y.length : Int) := by omega
  have k2 : IntKind.u64.wrap (y.length : Int) = (y.length : Int) := wraps_u64 _ (by omega) (by omega)
  rw [k1] at h2
  have H3 : Hid (∀ (s : Value) (w1 : World), w1.ownsRow w.heap.size 5 1 s x.length (x.map u8v) → Below w.heap.size w w1 → Calls Tryz.prog 115 #[s, .int .u64 (y.length : Int)] w1 (Wrote w.heap.size w1 (x.length + (digs y.length).length) (x.map u8v ++ (digs y.length).map u8v))) := Lib.hid (fun s w1 ho hb => write_any y.length w.heap.size x.length _ s w1 (by omega) ho hb.size (by omega))
  have HE : Hid (x.map u8v ++ (digs y.length).map u8v ++ y.map u8v = (x ++ digs y.length ++ y).map u8v) := Lib.hid (by rw [List.map_append, List.map_append])
  have H1 := Lib.hid h1
  have H2 := Lib.hid h2
  have HY := Lib.hid hy
  have HP := Lib.hid hp
  clear h1 h2 hs hq k1 hy hp
  go_enter Tryz.func83, Tryz.ntmps83
  go_wp2_with fail
  refine H1.out.mono ?_
  rintro e w1 ⟨rfl, rfl⟩
  go_wp2_with fail
  refine H2.out.mono ?_
  rintro e w1 ⟨s, rfl, ho, hb⟩
  have H4 := Lib.hid (H3.out s w1 ho hb)
  have HB := Lib.hid hb
  clear ho hb H1 H2
  go_wp2_with fail
  refine H4.out.mono ?_
  rintro e w2 ⟨s2, rfl, ho, hb⟩
  have HO := Lib.hid ho
  have HB2 := Lib.hid (HB.out.trans hb)
  have HS2 := Lib.hid (HY.out.keep HB2.out)
  clear ho hb H4 H3
  go_wp2_with (at_builtin; refine wpList_append_sees rfl _ _ rfl w.heap.size _ _ _ rfl HO.out p y d w.heap.size rfl HP.out HS2.out (by omega) HB2.out.size ?_; intro v3 w3 h1 h2; have H5 := Lib.hid h1; have HB3 := Lib.hid (HB2.out.trans h2); clear h1 h2)
  go_ret
  refine ⟨v3, rfl, ?_, HB3.out⟩
  have h := H5.out
  rw [HE.out] at h
  unfold OwB
  rw [List.length_append, List.length_append]
  exact h
end Go.Proofs.YtmjonlffhhehjaaGreatDoor
/- Contract: the law's own awake: true. Condition: the sums' tables are laid. -/
namespace Go.Proofs.YtmjonlffhhehjaaGreatDoor
open Go.RowKit
theorem freeze_newk (w : World) (cs : Array Value) (e : TypeId) (n : Nat) : (w.alloc (.cells cs e)).freeze ⟨w.heap.size, n, none⟩ 1 = w.alloc (.cells cs e (n, n + 1)) := by
  have hm : ∀ (a : Array Obj) (x : Obj) (f : Obj → Obj), (a.push x).modify a.size f = a.push (f x) := by
    intro a x f
    apply Array.ext
    · simp
    · intro i h1 h2
      simp only [Array.getElem_modify, Array.getElem_push]
      by_cases h : a.size = i
      · subst h; simp
      · have hi : i < a.size := by simp at h1; omega
        simp [h, hi]
  unfold World.freeze
  rw [if_neg (by decide)]
  show ({ w.alloc (.cells cs e) with heap := (w.heap.push (.cells cs e)).modify w.heap.size _ } : World) = _
  rw [hm]
  rfl
theorem conv_newk (w : World) (cs : Array Value) (n c : Nat) :
    (convert 40 40 (.slice (some ⟨w.heap.size, 0, none⟩) n c)).run Tryz.prog (w.alloc (.cells cs 5)) =
      .ok (.slice (some ⟨w.heap.size, 0, none⟩) n c) (w.alloc (.cells cs 5 (cs.size, cs.size + 1))) := by
  have hsh : (w.alloc (.cells cs 5)).shape? w.heap.size = some (5, cs.size) := by
    have : (w.alloc (.cells cs 5)).heap[w.heap.size]? = some (.cells cs 5) := heap_alloc_new _ _
    unfold World.shape?
    rw [this]
  have hfr := freeze_newk w cs 5 cs.size
  simp [convert, run_underlying Tryz.underlying40, run_underlying Tryz.underlying5, markStringish, hsh, hfr]
theorem made_seesk (w : World) (x : List (BitVec 8)) (cs : Array Value) (f : Nat × Nat) (hx : cs = (x.map u8v).toArray) :
    Sees (w.alloc (.cells cs 5 f)) (w.heap.size + 1) (some ⟨w.heap.size, 0, none⟩) (x.map u8v) := fun _ =>
  ⟨_, rfl, Nat.lt_succ_self _, fun j u hu => by
    rw [Addr.add_mid, Nat.zero_add]
    exact (cell_of_row _ w.heap.size j cs 5 f (heap_alloc_new w _)).trans (by rw [hx]; simpa using hu)⟩
section
variable {o : Oper} {a : Act} {w : World} {Q : Exit → Act → World → Prop} {K : Act → World → Prop}
/-- Bytes' literal, turned into a slice of its own. -/
theorem wp_convk (x : Operand) (ho : o.op = .convert 40 40 x) (cs : Array Value) (n c : Nat) (hx : a.eval x = .slice (some ⟨w.heap.size, 0, none⟩) n c)
    (h : K (a.put o.dst (.slice (some ⟨w.heap.size, 0, none⟩) n c)) (w.alloc (.cells cs 5 (cs.size, cs.size + 1)))) : o.wp Tryz.prog a (w.alloc (.cells cs 5)) K Q := by
  unfold Oper.wp execOp
  simp only [ho, hx, Sem.run_bind, conv_newk w cs n c, Result.andThen_ok]
  exact h
/-- Bytes' literal. -/
theorem wp_lit8 (n : Nat) (parts : Array (Nat × Operand)) (ho : o.op = .buildSlice 40 n parts) (cs : Array Value) (h0 : n ≠ 0) (h9 : n ≤ 16777216)
    (hf : Instr.fill (fun i => some (i * 1, 1)) ((Array.range (n * 1)).map ((Value.int .u8 0).cells[· % (Value.int .u8 0).cells.size]!)) (parts.map fun (i, x) => (i, a.eval x)).toList = some cs)
    (h : K (a.put o.dst (.slice (some ⟨w.heap.size, 0, none⟩) n n)) (w.alloc (.cells cs 5))) : o.wp Tryz.prog a w K Q := by
  obtain ⟨i8x, hi8, hz8, hs8, _⟩ := info_parts u8_info
  refine wp_buildSlice 40 5 n parts ho cs i8x _ Tryz.underlying40 hi8 hz8 (by rw [hs8]; omega) (by rw [hs8]; omega) ?_ h
  rw [hs8]; exact hf
end
theorem bs_litk (w : World) (x : List (BitVec 8)) (cs : Array Value) (f : Nat × Nat) (hx : cs = (x.map u8v).toArray) (n : Nat) (hn : x.length = n) : Bs (w.alloc (.cells cs 5 f)) (.slice (some ⟨w.heap.size, 0, none⟩) n n) x :=
  ⟨some ⟨w.heap.size, 0, none⟩, n, by rw [hn], by rw [hn]; exact Nat.le_refl _, fun h => (by cases h), (made_seesk w x cs f hx).more (by simp)⟩
def t10 : List (BitVec 8) := [48#8, 49#8, 50#8, 51#8, 52#8, 53#8, 54#8, 55#8, 56#8, 57#8]
def t10v : Array Value := #[.int .u8 48, .int .u8 49, .int .u8 50, .int .u8 51, .int .u8 52, .int .u8 53, .int .u8 54, .int .u8 55, .int .u8 56, .int .u8 57]
theorem t10_eq : t10v = (t10.map u8v).toArray := by kernel_rfl
theorem t10_cut : cutP t10 = [(shaU t10, t10)] := by kernel_rfl
theorem t10_good (v : Value) : goodPc (shaU t10, v, t10) = true := by
  unfold goodPc
  rw [decide_eq_true (show shaU (shaU t10, v, t10).2.2 = (shaU t10, v, t10).1 from rfl)]
  rfl
theorem t10_list : (strB t10).toList = [48, 49, 50, 51, 52, 53, 54, 55, 56, 57] := by kernel_rfl
theorem keys_one {LP : List Pc} {s : Su} {x : List (BitVec 8)} (h : LP.map keyP = [(s, x)]) : ∃ v, LP = [(s, v, x)] := by
  match LP, h with
  | [p], h =>
    obtain ⟨a, v, b⟩ := p
    simp [keyP] at h
    obtain ⟨rfl, rfl⟩ := h
    exact ⟨v, rfl⟩
end Go.Proofs.YtmjonlffhhehjaaGreatDoor
/- Contract: recipe's putLine. Conditions: a path of at most 100000 bytes, at most 100000 names. -/
namespace Go.Proofs.YtmjonlffhhehjaaGreatDoor
open Go.RowKit
theorem bytes_below (w : World) (s : ByteArray) : Below w.heap.size w (Lib.bytesWorld w 5 s) := by
  unfold Lib.bytesWorld
  refine ⟨rfl, ?_, rfl, ?_, fun k hk => Lib.bytesWorld_at_old w 5 s k hk⟩
  · rfl
  · have := Lib.bytesWorld_size w 5 s; unfold Lib.bytesWorld at this; omega
theorem bytes_bs (w : World) (s : ByteArray) : Bs (Lib.bytesWorld w 5 s) (.slice (some ⟨w.heap.size, 0, none⟩) s.size (grownCap w s.size 0 5)) (txB s) := by
  refine ⟨some ⟨w.heap.size, 0, none⟩, grownCap w s.size 0 5, by rw [txB_len], ?_, fun h => (by cases h), fun _ => ⟨_, rfl, ?_, fun j u hu => ?_⟩⟩
  · rw [txB_len]; exact grownCap_ge _ _ _ _
  · rw [Lib.bytesWorld_size]; exact Nat.lt_succ_self _
  · have hj : j < s.size := by have := (List.getElem?_eq_some_iff.1 hu).1; rwa [List.length_map, txB_len] at this
    rw [add_lit', Nat.zero_add, Lib.bytesWorld_cell w 5 s j hj, ← hu]
    unfold txB
    have hj' : j < s.data.toList.length := hj
    rw [List.getElem?_map, List.getElem?_map, List.getElem?_eq_getElem hj', List.getD_eq_getElem?_getD, List.getElem?_eq_getElem hj']
    rfl
/-- A text turned into bytes of its own. -/
theorem wp_conv_sb {o : Oper} {a : Act} {w : World} {Q : Exit → Act → World → Prop} {K : Act → World → Prop} (x : Operand) (ho : o.op = .convert 9 40 x) (s : ByteArray) (hx : a.eval x = .string s)
    (h : ∀ g c w', Bs w' (.slice (some ⟨g, 0, none⟩) s.size c) (txB s) → Below w.heap.size w w' → K (a.put o.dst (.slice (some ⟨g, 0, none⟩) s.size c)) w') : o.wp Tryz.prog a w K Q := by
  unfold Oper.wp execOp
  simp only [ho, hx, Sem.run_bind, Lib.run_convert_string_bytes (P := Tryz.prog) w 9 40 5 s Tryz.underlying9 Tryz.underlying40 Tryz.underlying5, Result.andThen_ok]
  exact h _ _ _ (bytes_bs w s) (bytes_below w s)
theorem putBytes0 (x : ByteArray) (hp : x.size ≤ 100000) (g c : Nat) (w : World) (h : Bs w (.slice (some ⟨g, 0, none⟩) x.size c) (txB x)) :
    Calls Tryz.prog 83 #[.slice none 0 0, .slice (some ⟨g, 0, none⟩) x.size c] w (GiveO w (digs x.size ++ txB x)) := by
  obtain ⟨q, c', hv, hc, hq, hs⟩ := h
  have e : q = some ⟨g, 0, none⟩ ∧ c' = c := by injection hv with h1 h2 h3; exact ⟨h1.symm, h3.symm⟩
  obtain ⟨rfl, rfl⟩ := e
  have h := putBytes_own [] none 0 (txB x) (some ⟨g, 0, none⟩) c' w (Sees.nil _ _ _) (fun _ => rfl) (by simp) hs (fun h => by cases h) (by rw [txB_len]; omega)
  rw [txB_len] at h
  exact h
theorem su_sees {w : World} {g : Nat} {E : TypeId} {s : Su} (h : Has w g E (encU s)) : Sees w w.heap.size (some ⟨g, 0, none⟩) (s.1.map u8v) := Sees.of_has h h.lt
theorem flatS_snoc (L : List Su) (s : Su) : flatS (L ++ [s]) = flatS L ++ s.1 := by unfold flatS; rw [List.flatMap_append]; simp
set_option maxHeartbeats 8000000 in
set_option maxRecDepth 100000 in
theorem putLine_any (p : Ln) (w : World) (hp : p.1.size ≤ 100000) (hn : p.2.2.2.2.length ≤ 100000) (hu : Us w p.2.2.2.1 p.2.2.2.2) :
    Calls Tryz.prog 42 #[.agg (encL p).toArray] w (GiveO w (putK (keyL p))) := by
  obtain ⟨x, d, s, v, N⟩ := p
  obtain ⟨q, c, hv, hc, hq, hs⟩ := hu
  simp only [] at hv hp hn hc hs
  subst hv
  have HB0 := Lib.hid ((Below.refl w.heap.size w).alloc (Nat.le_refl _) (.cells (encL (x, d, s, .slice q N.length c, N)).toArray 34))
  have HAS : Hid (Has (w.alloc (.cells (encL (x, d, s, .slice q N.length c, N)).toArray 34)) w.heap.size 34 (encL (x, d, s, .slice q N.length c, N))) := Lib.hid (Has.made' w _ _ _ rfl)
  have HP0 := Lib.hid hp
  have HS := Lib.hid hs
  obtain ⟨KP, hKP⟩ : ∃ KP, putK (keyL (x, d, s, .slice q N.length c, N)) = KP := ⟨_, rfl⟩
  rw [hKP]
  have HKE : Hid (digs x.size ++ (txB x ++ (if d = true then [1] else 0 :: (s.1 ++ (digs N.length ++ flatS N)))) = KP) := Lib.hid hKP
  have HC0 : Hid ((encL (x, d, s, .slice q N.length c, N))[0]? = some (.string x)) := Lib.hid rfl
  have HC1 : Hid ((encL (x, d, s, .slice q N.length c, N))[1]? = some (.bool d)) := Lib.hid rfl
  have HCS : Hid (∀ j u, (encU s)[j]? = some u → (encL (x, d, s, .slice q N.length c, N))[j + 2]? = some u) := Lib.hid (fun j u h => encL_su (p := (x, d, s, .slice q N.length c, N)) h)
  have HC34 : Hid ((encL (x, d, s, .slice q N.length c, N))[34]? = some (.slice q N.length c)) := Lib.hid (encL_n _)
  have HDL : Hid ((digs x.size).length ≤ 10 ∧ (txB x).length ≤ 100000 ∧ (digs N.length).length ≤ 10) := Lib.hid ⟨digs_len10 _ (by omega), by rw [txB_len]; exact hp, digs_len10 _ (by omega)⟩
  have HNL := Lib.hid hn
  clear hp hs hKP hq hc
  go_enter Tryz.func42, Tryz.ntmps42
  go_upto_region 1 with fail
  generalize w.alloc (.cells (encL (x, d, s, .slice q N.length c, N)).toArray 34) = w0 at *
  generalize encL (x, d, s, .slice q N.length c, N) = L at *
  have HG : Hid (w.heap.size < w0.heap.size) := Lib.hid HAS.out.lt
  obtain ⟨g, hg⟩ : ∃ g, g = w.heap.size := ⟨_, rfl⟩
  rw [← hg] at HAS HG ⊢
  have HGE := Lib.hid hg
  clear hg
  have c0 := HAS.out.cellv HC0.out
  refine wp_region_lit ?_
  try simp only [Act.put, List.setIfInBounds_toArray, List.set_cons_zero, List.set_cons_succ]
  refine lp_pure (v := ?_) (by kernel_rfl) ?_ ?_
  rotate_left
  · go_simp; try with_reducible rfl
  try simp only [Act.put, List.setIfInBounds_toArray, List.set_cons_zero, List.set_cons_succ]
  refine lp_pure (v := ?_) (by kernel_rfl) ?_ ?_
  rotate_left
  · go_simp; try with_reducible rfl
  try simp only [Act.put, List.setIfInBounds_toArray, List.set_cons_zero, List.set_cons_succ]
  refine lp_step (by kernel_rfl) (fun K hK => wp_conv_sb (.tmp 7) rfl x rfl (fun g1 c1 w1 h1 h2 => hK _ _ ?_))
  try simp only [Act.put, List.setIfInBounds_toArray, List.set_cons_zero, List.set_cons_succ]
  have HB1 := Lib.hid h2
  have HPB := Lib.hid (putBytes0 x HP0.out g1 c1 w1 h1)
  clear h1 h2 c0
  refine lp_step (by kernel_rfl) (fun K hK => ?_)
  go_wp2_with fail
  refine Calls.mono (HPB.out) ?_
  rintro e w2 ⟨v2, rfl, hw, hb⟩
  have HB2 : Hid (Below w0.heap.size w0 w2) := Lib.hid (HB1.out.trans (hb.mono HB1.out.size))
  have HR2 : Hid (OwB w2 w0.heap.size v2 (digs x.size ++ txB x)) := Lib.hid (hw.less HB1.out.size)
  have HA2 := Lib.hid (HAS.out.keep HB2.out HG.out)
  clear hb hw HPB HB1 HAS
  refine hK _ _ ?_
  clear hK
  try simp only [Act.put, List.setIfInBounds_toArray, List.set_cons_zero, List.set_cons_succ]
  refine lp_pure (v := ?_) (by kernel_rfl) ?_ ?_
  rotate_left
  · go_simp; try with_reducible rfl
  try simp only [Act.put, List.setIfInBounds_toArray, List.set_cons_zero, List.set_cons_succ]
  refine wpList_nil ?_
  have c1 := HA2.out.cellv HC1.out
  cases d with
  | true =>
    go_upto_region 3 with fail
    clear c1
    refine wp_region_lit ?_
    try simp only [Act.put, List.setIfInBounds_toArray, List.set_cons_zero, List.set_cons_succ]
    refine lp_pure (v := ?_) (by kernel_rfl) ?_ ?_
    rotate_left
    · go_simp; try with_reducible rfl
    try simp only [Act.put, List.setIfInBounds_toArray, List.set_cons_zero, List.set_cons_succ]
    refine lp_step (by kernel_rfl) (fun K hK => wp_lit8 1 _ rfl #[Value.int .u8 1] (by decide) (by decide) (by kernel_rfl) (hK _ _ ?_))
    try simp only [Act.put, List.setIfInBounds_toArray, List.set_cons_zero, List.set_cons_succ]
    refine wpList_add_b rfl (.tmp 12) (.tmp 13) rfl w0.heap.size _ _ rfl (HR2.out.keep ((Below.refl _ _).alloc (Nat.le_refl _) _)) (some ⟨w2.heap.size, 0, none⟩) [1#8] 1 1 rfl rfl (fun h => by cases h) (Sees.of_has (Has.made' w2 _ _ _ rfl) (by simp)) (by rw [List.length_append]; have := HDL.out; simp; omega) (by have := HB2.out.size; simp; omega) ?_
    intro v3 w3 h1 h2
    have HR3 := Lib.hid h1
    have HB3 := Lib.hid ((HB2.out.trans ((Below.refl _ _).alloc HB2.out.size _)).trans h2)
    clear h1 h2
    try simp only [Act.put, List.setIfInBounds_toArray, List.set_cons_zero, List.set_cons_succ]
    refine lp_pure (v := ?_) (by kernel_rfl) ?_ ?_
    rotate_left
    · go_simp; try with_reducible rfl
    try simp only [Act.put, List.setIfInBounds_toArray, List.set_cons_zero, List.set_cons_succ]
    refine wpList_nil ?_
    go_wp2_with fail
    go_ret
    refine ⟨v3, rfl, ?_, HB0.out.trans (HB3.out.mono HB0.out.size)⟩
    have h := HR3.out.less HB0.out.size
    rw [List.append_assoc] at h
    have hk := HKE.out
    simp only [if_true] at hk
    rw [← hk]
    exact h
  | false =>
    go_upto_region 4 with fail
    clear c1
    refine wp_region_lit ?_
    try simp only [Act.put, List.setIfInBounds_toArray, List.set_cons_zero, List.set_cons_succ]
    refine lp_pure (v := ?_) (by kernel_rfl) ?_ ?_
    rotate_left
    · go_simp; try with_reducible rfl
    try simp only [Act.put, List.setIfInBounds_toArray, List.set_cons_zero, List.set_cons_succ]
    refine lp_step (by kernel_rfl) (fun K hK => wp_lit8 1 _ rfl #[Value.int .u8 0] (by decide) (by decide) (by kernel_rfl) (hK _ _ ?_))
    try simp only [Act.put, List.setIfInBounds_toArray, List.set_cons_zero, List.set_cons_succ]
    refine wpList_add_b rfl (.tmp 15) (.tmp 16) rfl w0.heap.size _ _ rfl (HR2.out.keep ((Below.refl _ _).alloc (Nat.le_refl _) _)) (some ⟨w2.heap.size, 0, none⟩) [0#8] 1 1 rfl rfl (fun h => by cases h) (Sees.of_has (Has.made' w2 _ _ _ rfl) (by simp)) (by rw [List.length_append]; have := HDL.out; simp; omega) (by have := HB2.out.size; simp; omega) ?_
    intro v3 w3 h1 h2
    have HR3 := Lib.hid h1
    have HB3 := Lib.hid ((HB2.out.trans ((Below.refl _ _).alloc HB2.out.size _)).trans h2)
    have HA3 := Lib.hid (HA2.out.keep (((Below.refl w0.heap.size w2).alloc HB2.out.size _).trans h2) HG.out)
    clear h1 h2 HB2 HR2 HA2
    try simp only [Act.put, List.setIfInBounds_toArray, List.set_cons_zero, List.set_cons_succ]
    refine lp_pure (v := ?_) (by kernel_rfl) ?_ ?_
    rotate_left
    · go_simp; try with_reducible rfl
    try simp only [Act.put, List.setIfInBounds_toArray, List.set_cons_zero, List.set_cons_succ]
    refine wpList_nil ?_
    go_upto_region 5 with fail
    refine wp_region_lit ?_
    try simp only [Act.put, List.setIfInBounds_toArray, List.set_cons_zero, List.set_cons_succ]
    refine lp_pure (v := ?_) (by kernel_rfl) ?_ ?_
    rotate_left
    · go_simp; try with_reducible rfl
    try simp only [Act.put, List.setIfInBounds_toArray, List.set_cons_zero, List.set_cons_succ]
    refine lp_pure (v := ?_) (by kernel_rfl) ?_ ?_
    rotate_left
    · go_simp; try with_reducible rfl
    try simp only [Act.put, List.setIfInBounds_toArray, List.set_cons_zero, List.set_cons_succ]
    refine lp_pure (v := ?_) (by kernel_rfl) ?_ ?_
    rotate_left
    · go_simp; try with_reducible rfl
    try simp only [Act.put, List.setIfInBounds_toArray, List.set_cons_zero, List.set_cons_succ]
    have HSS : Hid (Sees w3 w3.heap.size (some ⟨g, 2, none⟩) (s.1.map u8v)) := Lib.hid (fun _ => ⟨_, rfl, HA3.out.lt, fun j u hu => by rw [add_lit', Nat.add_comm]; exact HA3.out.cellv (HCS.out j u hu)⟩)
    refine wpList_add_b rfl (.tmp 18) (.tmp 20) rfl w0.heap.size _ _ rfl HR3.out (some ⟨g, 2, none⟩) s.1 32 32 s.2 rfl (fun h => by cases h) HSS.out (by rw [s.2, List.length_append, List.length_append]; have := HDL.out; simp; omega) HB3.out.size ?_
    intro v4 w4 h1 h2
    have HR4 := Lib.hid h1
    have HB4 := Lib.hid (HB3.out.trans h2)
    have HA4 := Lib.hid (HA3.out.keep h2 HG.out)
    have c34 := HA4.out.cellv HC34.out
    obtain ⟨q4, c4, hv4, hc4, hq4, hs4⟩ := h1.bs
    subst hv4
    have HL4 : Hid ((digs x.size ++ txB x ++ [0#8] ++ s.1).length ≤ 100100) := Lib.hid (by rw [List.length_append, List.length_append, List.length_append, s.2]; have := HDL.out; simp; omega)
    obtain ⟨P, hP⟩ : ∃ P, P = digs x.size ++ txB x ++ [0#8] ++ s.1 := ⟨_, rfl⟩
    rw [← hP] at HR4 HL4 hs4 ⊢
    have HPE := Lib.hid hP
    have HPN := Lib.hid (put_own P q4 c4 N.length w4 hs4 hq4 (by have := HL4.out; omega) (by omega))
    have kw : IntKind.u64.wrap (N.length : Int) = (N.length : Int) := wraps_u64 _ (by omega) (by omega)
    clear h1 h2 HB3 HR3 HA3 HSS hc4 hq4 hs4 hP
    try simp only [Act.put, List.setIfInBounds_toArray, List.set_cons_zero, List.set_cons_succ]
    refine lp_pure (v := ?_) (by kernel_rfl) ?_ ?_
    rotate_left
    · go_simp; try with_reducible rfl
    try simp only [Act.put, List.setIfInBounds_toArray, List.set_cons_zero, List.set_cons_succ]
    refine wpList_nil ?_
    go_upto_region 6 with fail
    refine wp_region_lit ?_
    try simp only [Act.put, List.setIfInBounds_toArray, List.set_cons_zero, List.set_cons_succ]
    refine lp_pure (v := ?_) (by kernel_rfl) ?_ ?_
    rotate_left
    · go_simp; try with_reducible rfl
    try simp only [Act.put, List.setIfInBounds_toArray, List.set_cons_zero, List.set_cons_succ]
    refine lp_pure (v := ?_) (by kernel_rfl) ?_ ?_
    rotate_left
    · go_simp; try with_reducible rfl
    try simp only [Act.put, List.setIfInBounds_toArray, List.set_cons_zero, List.set_cons_succ]
    refine lp_pure (v := ?_) (by kernel_rfl) ?_ ?_
    rotate_left
    · go_simp; try with_reducible rfl
    try simp only [Act.put, List.setIfInBounds_toArray, List.set_cons_zero, List.set_cons_succ]
    refine lp_pure (v := ?_) (by kernel_rfl) ?_ ?_
    rotate_left
    · go_simp; try with_reducible rfl
    try simp only [Act.put, List.setIfInBounds_toArray, List.set_cons_zero, List.set_cons_succ]
    refine lp_pure (v := ?_) (by kernel_rfl) ?_ ?_
    rotate_left
    · go_simp; try with_reducible rfl
    try simp only [Act.put, List.setIfInBounds_toArray, List.set_cons_zero, List.set_cons_succ]
    refine lp_step (by kernel_rfl) (fun K hK => ?_)
    go_wp2_with fail
    refine Calls.mono (HPN.out) ?_
    rintro e w5 ⟨v5, rfl, hw, hb⟩
    have HB5 := Lib.hid (HB4.out.trans (hb.mono HB4.out.size))
    have HR5 := Lib.hid (hw.less HB4.out.size)
    have HA5 := Lib.hid (HA4.out.keepB hb)
    clear hb hw HPN HB4 HR4 HA4 c34 kw
    refine hK _ _ ?_
    clear hK
    try simp only [Act.put, List.setIfInBounds_toArray, List.set_cons_zero, List.set_cons_succ]
    refine lp_pure (v := ?_) (by kernel_rfl) ?_ ?_
    rotate_left
    · go_simp; try with_reducible rfl
    try simp only [Act.put, List.setIfInBounds_toArray, List.set_cons_zero, List.set_cons_succ]
    refine wpList_nil ?_
    have c34 := HA5.out.cellv HC34.out
    go_upto_region 8 with fail
    clear c34
    have HS5 := Lib.hid (HS.out.keep (HB0.out.trans (HB5.out.mono HB0.out.size)))
    go_loopw [3, 31] (fun v vi wr => ∃ j : Nat, j ≤ N.length ∧ vi = .int .i64 j ∧ OwB wr w0.heap.size v (P ++ digs N.length ++ flatS (N.take j)) ∧ Below w0.heap.size w0 wr) (fun _ vi _ => N.length - (intOf vi).toNat)
    case atStart => exact ⟨0, by omega, rfl, by have h := HR5.out; rw [List.take_zero]; show OwB _ _ _ (P ++ digs N.length ++ []); rw [List.append_nil]; exact h, HB5.out⟩
    case round =>
      clear HR5 HA5 HB5
      rename_i wr
      obtain ⟨j, hj, rfl, hrow, hB⟩ := hrel
      have HROW := Lib.hid hrow
      have HB := Lib.hid hB
      clear hrow hB
      by_cases hlt : j < N.length
      · obtain ⟨an, rfl, _, hcn⟩ := Ss.el HS.out hlt
        obtain ⟨y, hy⟩ : ∃ y, y = N[j] := ⟨_, rfl⟩
        have HTK : Hid (flatS (N.take (j + 1)) = flatS (N.take j) ++ y.1) := Lib.hid (by rw [List.take_add_one, List.getElem?_eq_getElem hlt, ← hy]; exact flatS_snoc _ _)
        rw [← hy] at hcn
        have HCN := Lib.hid (hcn wr (HB0.out.trans (HB.out.mono HB0.out.size)))
        have HLF : Hid ((P ++ digs N.length ++ flatS (N.take j)).length ≤ 10000000) := Lib.hid (by rw [List.length_append, List.length_append, flatS_len, List.length_take]; have := HL4.out; have := HDL.out; have := HNL.out; omega)
        have hjj : (j : Int) < (N.length : Int) := by omega
        have kll : j < 1000000 := by omega
        clear hcn hy
        go_upto_region 9 with fail
        refine wp_region_lit ?_
        try simp only [Act.put, List.setIfInBounds_toArray, List.set_cons_zero, List.set_cons_succ]
        refine lp_pure (v := ?_) (by kernel_rfl) ?_ ?_
        rotate_left
        · go_simp; try with_reducible rfl
        try simp only [Act.put, List.setIfInBounds_toArray, List.set_cons_zero, List.set_cons_succ]
        refine lp_pure (by kernel_rfl) (load_su 31 (.tmp 33) rfl (an.add (j * 32)) rfl elSum.2.1 szSum y HCN.out) ?_
        try simp only [Act.put, List.setIfInBounds_toArray, List.set_cons_zero, List.set_cons_succ]
        refine wp_copy_su rfl 31 (zSu_run wr) szSum rfl rfl (.tmp 5) (.tmp 34) rfl y rfl rfl ?_
        intro w7 h1 h2
        have HY := Lib.hid h1
        have HR7 := Lib.hid (HROW.out.keep h2)
        have HB7 := Lib.hid (HB.out.trans (h2.mono HB.out.size))
        clear h1 h2 HROW HB HCN
        generalize wr.heap.size = b at *
        try simp only [Act.put, List.setIfInBounds_toArray, List.set_cons_zero, List.set_cons_succ]
        refine wpList_nil ?_
        go_upto_region 10 with fail
        refine wp_region_lit ?_
        try simp only [Act.put, List.setIfInBounds_toArray, List.set_cons_zero, List.set_cons_succ]
        refine lp_pure (v := ?_) (by kernel_rfl) ?_ ?_
        rotate_left
        · go_simp; try with_reducible rfl
        try simp only [Act.put, List.setIfInBounds_toArray, List.set_cons_zero, List.set_cons_succ]
        refine lp_pure (v := ?_) (by kernel_rfl) ?_ ?_
        rotate_left
        · go_simp; try with_reducible rfl
        try simp only [Act.put, List.setIfInBounds_toArray, List.set_cons_zero, List.set_cons_succ]
        refine wpList_add_b rfl (.tmp 35) (.tmp 36) rfl w0.heap.size _ _ rfl HR7.out (some ⟨b, 0, none⟩) y.1 32 32 y.2 rfl (fun h => by cases h) (su_sees HY.out) (by rw [y.2]; have := HLF.out; omega) HB7.out.size ?_
        intro v8 w8 h1 h2
        have HR8 := Lib.hid h1
        have HB8 := Lib.hid (HB7.out.trans h2)
        clear h1 h2
        try simp only [Act.put, List.setIfInBounds_toArray, List.set_cons_zero, List.set_cons_succ]
        refine lp_pure (v := ?_) (by kernel_rfl) ?_ ?_
        rotate_left
        · go_simp; try with_reducible rfl
        try simp only [Act.put, List.setIfInBounds_toArray, List.set_cons_zero, List.set_cons_succ]
        refine wpList_nil ?_
        go_wp2_with fail
        go_roundw
        case rel => exact ⟨j + 1, by omega, by go_num, by have h := HR8.out; rw [List.append_assoc, ← HTK.out] at h; exact h, HB8.out⟩
        case measure => simp [intOf]; omega
      · have hjl : j = N.length := by omega
        subst hjl
        have k3 : ¬ ((N.length : Int) < (N.length : Int)) := by omega
        have h := HROW.out.less HB0.out.size
        rw [List.take_length, HPE.out] at h
        have HF : Hid (digs x.size ++ txB x ++ [0#8] ++ s.1 ++ digs N.length ++ flatS N = KP) := Lib.hid (by have hk := HKE.out; simp only [Bool.false_eq_true, if_false] at hk; rw [← hk]; simp only [List.append_assoc, List.cons_append, List.nil_append]; rfl)
        rw [HF.out] at h
        have HR := Lib.hid h
        clear h
        go_wp2_with fail
        go_ret
        exact ⟨_, rfl, HR.out, HB0.out.trans (HB.out.mono HB0.out.size)⟩
end Go.Proofs.YtmjonlffhhehjaaGreatDoor
/- Contracts: recipe's Put, Tell. Conditions: paths shorter than 2^63 bytes, fewer than 2^63 lines and names of a line; for Tell the sums' tables are laid. -/
namespace Go.Proofs.YtmjonlffhhehjaaGreatDoor
open Go.RowKit
theorem putK_len {k : Lk} (h1 : k.1.size ≤ 68) (h2 : k.2.2.2.length ≤ 2048) : (putK k).length ≤ 70000 := by
  have d1 := digs_len10 k.1.size (by omega)
  have d2 := digs_len10 k.2.2.2.length (by omega)
  unfold putK
  rw [List.length_append, List.length_append, txB_len]
  split
  · simp; omega
  · rw [List.length_cons, List.length_append, List.length_append, flatS_len, k.2.2.1.2]; omega
theorem flatK_len : ∀ {R : List Lk}, (∀ k ∈ R, (putK k).length ≤ 70000) → (R.flatMap putK).length ≤ 70000 * R.length
  | [], _ => by simp
  | k :: R, h => by
    have h1 := flatK_len (fun x hx => h x (List.mem_cons_of_mem _ hx))
    have h2 := h k (List.mem_cons_self ..)
    rw [List.flatMap_cons, List.length_append, List.length_cons]; omega
theorem putR_len (R : List Lk) : (putR R).length ≤ 2800000 := by
  unfold putR
  split
  · rename_i h
    have h1 := flatK_len (R := R) (fun k hk => putK_len (goodK_size h k hk) (okLn_names ((goodK_parts h).2.1 k hk)))
    have h2 := (goodK_parts h).1
    omega
  · simp
set_option maxHeartbeats 8000000 in
set_option maxRecDepth 100000 in
theorem put12_any (L : List Ln) (q : Option Addr) (c : Nat) (w : World) (hm : L.length < 9223372036854775808) (hn : ∀ l ∈ L, l.1.size < 9223372036854775808 ∧ l.2.2.2.2.length < 9223372036854775808) (hs : Sees w w.heap.size q (rowL L)) (hb : Lnb w L) :
    Calls Tryz.prog 13 #[.slice q L.length c] w (GiveO w (putR (L.map keyL))) := by
  have HG := Lib.hid (goodK_any L q c w hm hn hs hb)
  have HS := Lib.hid hs
  have HLB := Lib.hid hb
  have HSM : Hid (goodK (L.map keyL) = true → L.length ≤ 40 ∧ ∀ l ∈ L, l.1.size ≤ 68 ∧ l.2.2.2.2.length ≤ 2048) := Lib.hid (fun h => ⟨by have := (goodK_parts h).1; rwa [List.length_map] at this, fun l hl => ⟨goodK_size h (keyL l) (List.mem_map_of_mem hl), okLn_names ((goodK_parts h).2.1 (keyL l) (List.mem_map_of_mem hl))⟩⟩)
  obtain ⟨V, hV⟩ : ∃ V, putR (L.map keyL) = V := ⟨_, rfl⟩
  rw [hV]
  unfold putR at hV
  have HV := Lib.hid hV
  clear hs hb hn hV
  generalize goodK (L.map keyL) = GK at *
  go_enter Tryz.func13, Tryz.ntmps13
  cases GK with
  | false =>
    go_wp2_with ((with_reducible refine HG.out.mono ?_); rintro e w1 ⟨rfl, hb⟩; have HB := Lib.hid hb; clear hb)
    go_ret
    have hv : [] = V := by simpa using HV.out
    exact ⟨_, rfl, by rw [← hv]; exact OwB.nil _ _, HB.out⟩
  | true =>
  have HV1 : Hid ((L.map keyL).flatMap putK = V) := Lib.hid (by simpa using HV.out)
  have HSZ := Lib.hid (HSM.out (by trivial))
  clear HV HSM
  go_upto_region 5 with ((with_reducible refine HG.out.mono ?_); rintro e w1 ⟨rfl, hb⟩; have HB := Lib.hid hb; clear hb)
  clear HG
  have HS1 := Lib.hid ((HS.out.keep HB.out).more HB.out.size)
  have HL1 := Lib.hid (HLB.out.keep HB.out)
  go_loopw [3, 11] (fun v vi wr => ∃ j : Nat, j ≤ L.length ∧ vi = .int .i64 j ∧ OwB wr w.heap.size v (((L.take j).map keyL).flatMap putK) ∧ Below w.heap.size w wr) (fun _ vi _ => L.length - (intOf vi).toNat)
  case atStart => exact ⟨0, by omega, rfl, OwB.nil _ _, HB.out⟩
  case round =>
    clear HB HS1 HL1
    rename_i wr
    obtain ⟨j, hj, rfl, hrow, hB⟩ := hrel
    have HROW := Lib.hid hrow
    have HB := Lib.hid hB
    clear hrow hB
    by_cases hlt : j < L.length
    · obtain ⟨ad, rfl, _, hcell⟩ := Sees.ln (HS.out.keep HB.out) hlt
      obtain ⟨p, hp⟩ : ∃ p, p = L[j] := ⟨_, rfl⟩
      have hmem : p ∈ L := by rw [hp]; exact List.getElem_mem hlt
      have HTK : Hid (((L.take (j + 1)).map keyL).flatMap putK = ((L.take j).map keyL).flatMap putK ++ putK (keyL p)) := Lib.hid (by rw [List.take_add_one, List.getElem?_eq_getElem hlt, ← hp, List.map_append, List.flatMap_append]; simp)
      rw [← hp] at hcell
      have hus := (HLB.out p hmem).keep HB.out
      have hsz := HSZ.out.2 p hmem
      have HUS := Lib.hid hus
      have HONE := Lib.hid hus.one
      have HSP := Lib.hid hsz
      have HCELL := Lib.hid (hcell wr (Below.refl _ _))
      have HLF : Hid ((((L.take j).map keyL).flatMap putK).length ≤ 70000 * 40 ∧ (putK (keyL p)).length ≤ 70000) := Lib.hid (by
        refine ⟨?_, putK_len hsz.1 hsz.2⟩
        have h := flatK_len (R := (L.take j).map keyL) (fun k hk => by
          obtain ⟨l, hl, rfl⟩ := List.mem_map.1 hk
          have := HSZ.out.2 l (List.mem_of_mem_take hl)
          exact putK_len this.1 this.2)
        rw [List.length_map, List.length_take] at h
        have := HSZ.out.1
        omega)
      have hjj : (j : Int) < (L.length : Int) := by omega
      have kll : j < 1000000 := by have := HSZ.out.1; omega
      clear hcell hus hp hmem hsz
      go_upto_region 6 with fail
      refine wp_region_lit ?_
      try simp only [Act.put, List.setIfInBounds_toArray, List.set_cons_zero, List.set_cons_succ]
      refine lp_pure (v := ?_) (by kernel_rfl) ?_ ?_
      rotate_left
      · go_simp; try with_reducible rfl
      try simp only [Act.put, List.setIfInBounds_toArray, List.set_cons_zero, List.set_cons_succ]
      refine lp_pure (by kernel_rfl) (load_ln 24 34 elLn (.tmp 13) rfl (ad.add (j * 35)) rfl p HCELL.out) ?_
      try simp only [Act.put, List.setIfInBounds_toArray, List.set_cons_zero, List.set_cons_succ]
      refine wp_copy_ln rfl rfl rfl (.tmp 5) (.tmp 14) rfl p HONE.out rfl rfl ?_
      intro w7 h1 h2
      have HP := Lib.hid h1
      have HB7 := Lib.hid (HB.out.trans (h2.mono HB.out.size))
      have HR7 := Lib.hid (HROW.out.keep h2)
      have HPL := Lib.hid (putLine_any p w7 (by have := HSP.out.1; omega) (by have := HSP.out.2; omega) (HUS.out.keep h2))
      clear h1 h2 HCELL HROW HB HUS
      generalize wr.heap.size = b at *
      try simp only [Act.put, List.setIfInBounds_toArray, List.set_cons_zero, List.set_cons_succ]
      refine wpList_nil ?_
      go_upto_region 7 with fail
      refine wp_region_lit ?_
      try simp only [Act.put, List.setIfInBounds_toArray, List.set_cons_zero, List.set_cons_succ]
      refine lp_pure (v := ?_) (by kernel_rfl) ?_ ?_
      rotate_left
      · go_simp; try with_reducible rfl
      try simp only [Act.put, List.setIfInBounds_toArray, List.set_cons_zero, List.set_cons_succ]
      refine lp_pure (by kernel_rfl) (load_boxL (.tmp 5) rfl b rfl p HP.out) ?_
      try simp only [Act.put, List.setIfInBounds_toArray, List.set_cons_zero, List.set_cons_succ]
      refine lp_step (by kernel_rfl) (fun K hK => ?_)
      go_wp2_with fail
      refine Calls.mono (HPL.out) ?_
      rintro e w8 ⟨v8, rfl, hw, hb⟩
      have HB8 := Lib.hid (HB7.out.trans (hb.mono HB7.out.size))
      have HR8 := Lib.hid (HR7.out.keep hb)
      obtain ⟨q8, c8, hv8, hc8, hq8, hs8⟩ := hw.bs
      subst hv8
      have HQ8 := Lib.hid hq8
      have HS8 := Lib.hid hs8
      clear hb hw HPL HB7 HR7 HP hc8 hq8 hs8
      refine hK _ _ ?_
      clear hK
      try simp only [Act.put, List.setIfInBounds_toArray, List.set_cons_zero, List.set_cons_succ]
      refine wpList_add_b rfl (.tmp 15) (.tmp 17) rfl w.heap.size _ _ rfl HR8.out q8 (putK (keyL p)) _ c8 rfl rfl HQ8.out HS8.out (by have := HLF.out; omega) HB8.out.size ?_
      intro v9 w9 h1 h2
      have HR9 := Lib.hid h1
      have HB9 := Lib.hid (HB8.out.trans h2)
      clear h1 h2
      try simp only [Act.put, List.setIfInBounds_toArray, List.set_cons_zero, List.set_cons_succ]
      refine lp_pure (v := ?_) (by kernel_rfl) ?_ ?_
      rotate_left
      · go_simp; try with_reducible rfl
      try simp only [Act.put, List.setIfInBounds_toArray, List.set_cons_zero, List.set_cons_succ]
      refine wpList_nil ?_
      go_wp2_with fail
      go_roundw
      case rel => exact ⟨j + 1, by omega, by go_num, by rw [HTK.out]; exact HR9.out, HB9.out⟩
      case measure => simp [intOf]; omega
    · have hjl : j = L.length := by omega
      subst hjl
      have kk : ¬ ((L.length : Int) < (L.length : Int)) := by omega
      have h := HROW.out
      rw [List.take_length, HV1.out] at h
      have HR := Lib.hid h
      clear h
      go_wp2_with fail
      go_ret
      exact ⟨_, rfl, HR.out, HB.out⟩
theorem of_big {w : World} {v : Value} {x : List (BitVec 8)} (h : Bs w v x) (hx : x.length ≤ 100000000) (hL : Laid w) :
    Calls Tryz.prog 19 #[.slice (some ⟨w.heap.size, 0, none⟩) 1 1] (w.alloc (.cells #[v] 40)) fun e w' => e = .returned (.agg (encU (shaU x)).toArray) ∧ Below (w.alloc (.cells #[v] 40)).heap.size (w.alloc (.cells #[v] 40)) w' ∧ Below w.heap.size w w' := by
  obtain ⟨q, c, rfl, hc, _, hs⟩ := h
  have hb : Below w.heap.size w (w.alloc (.cells #[.slice q x.length c] 40)) := (Below.refl _ _).alloc (Nat.le_refl _) _
  have hA : Has (w.alloc (.cells #[.slice q x.length c] 40)) w.heap.size 40 [.slice q x.length c] := Has.made w _ _
  have hP : Parts (w.alloc (.cells #[.slice q x.length c] 40)) (w.alloc (.cells #[.slice q x.length c] 40)).heap.size (some ⟨w.heap.size, 0, none⟩) [x] := fun i hi => by
    obtain rfl : i = 0 := by simpa using hi
    exact ⟨⟨w.heap.size, 0, none⟩, q, c, rfl, hA.lt, by rw [add_lit', Nat.zero_add]; exact hA.cellv rfl, hc, (hs.keep hb).more hb.size⟩
  have h := of_any [x] _ 1 _ hP (by simp) (by simp; omega) (hL.keep hb hL.size)
  refine Calls.mono h ?_
  rintro e w' ⟨rfl, h2⟩
  have e : ([x] : List (List (BitVec 8))).flatten = x := by simp
  rw [e]
  exact ⟨rfl, h2, hb.trans (h2.mono hb.size)⟩
set_option maxHeartbeats 8000000 in
set_option maxRecDepth 100000 in
theorem tell12_any (L : List Ln) (q : Option Addr) (c : Nat) (w : World) (hm : L.length < 9223372036854775808) (hn : ∀ l ∈ L, l.1.size < 9223372036854775808 ∧ l.2.2.2.2.length < 9223372036854775808) (hs : Sees w w.heap.size q (rowL L)) (hb : Lnb w L) (hL : Laid w) :
    Calls Tryz.prog 18 #[.slice q L.length c] w fun e w' => e = .returned (.agg (encU (shaU (putR (L.map keyL)))).toArray) ∧ Below w.heap.size w w' := by
  have HP : Hid (∀ w1, Below w.heap.size w w1 → Calls Tryz.prog 13 #[.slice q L.length c] w1 (GiveO w1 (putR (L.map keyL)))) := Lib.hid (fun w1 h => put12_any L q c w1 hm hn ((hs.keep h).more h.size) (hb.keep h))
  have HLEN := Lib.hid (putR_len (L.map keyL))
  have HB0 := Lib.hid ((Below.refl w.heap.size w).alloc (Nat.le_refl _) (.cells (Array.replicate 32 (Value.int .u8 0)) 31))
  have HX := Lib.hid (Has.made' w 31 (Array.replicate 32 (Value.int .u8 0)) (List.replicate 32 (Value.int .u8 0)) rfl)
  have HL := Lib.hid hL
  have HSZ := Lib.hid hL.size
  generalize putR (L.map keyL) = x at *
  clear hs hb hL hn
  go_enter Tryz.func18, Tryz.ntmps18
  go_upto_region 0 with fail
  refine wp_region_lit ?_
  try simp only [Act.put, List.setIfInBounds_toArray, List.set_cons_zero, List.set_cons_succ]
  refine wpList_alloc rfl _ rfl _ (zSu_run w) ?_
  try simp only [Act.put, List.setIfInBounds_toArray, List.set_cons_zero, List.set_cons_succ]
  refine wpList_nil ?_
  generalize w.alloc (.cells (Array.replicate 32 (Value.int .u8 0)) 31) = w0 at *
  obtain ⟨g, hg⟩ : ∃ g, g = w.heap.size := ⟨_, rfl⟩
  rw [← hg] at HX ⊢
  have HGE := Lib.hid hg
  clear hg
  go_upto_region 1 with fail
  refine wp_region_lit ?_
  try simp only [Act.put, List.setIfInBounds_toArray, List.set_cons_zero, List.set_cons_succ]
  refine lp_pure (v := ?_) (by kernel_rfl) ?_ ?_
  rotate_left
  · go_simp; try with_reducible rfl
  try simp only [Act.put, List.setIfInBounds_toArray, List.set_cons_zero, List.set_cons_succ]
  refine lp_step (by kernel_rfl) (fun K hK => ?_)
  go_wp2_with fail
  refine Calls.mono (HP.out w0 HB0.out) ?_
  rintro e w2 ⟨v2, rfl, hw, hb⟩
  have HB2 := Lib.hid (HB0.out.trans (hb.mono HB0.out.size))
  have HX2 := Lib.hid (HX.out.keepB hb)
  obtain ⟨q2, c2, hv2, r⟩ := hw.bs
  subst hv2
  have HOF := Lib.hid (of_big (v := .slice q2 x.length c2) ⟨q2, c2, rfl, r⟩ (by have := HLEN.out; omega) (HL.out.keep HB2.out HSZ.out))
  clear hb hw HP HB0 HX r
  refine hK _ _ ?_
  clear hK
  try simp only [Act.put, List.setIfInBounds_toArray, List.set_cons_zero, List.set_cons_succ]
  refine lp_step (by kernel_rfl) (fun K hK => wp_one_bs (.tmp 4) rfl q2 x.length c2 rfl (hK _ _ ?_))
  try simp only [Act.put, List.setIfInBounds_toArray, List.set_cons_zero, List.set_cons_succ]
  refine lp_step (by kernel_rfl) (fun K hK => ?_)
  go_wp2_with fail
  refine Calls.mono (HOF.out) ?_
  rintro e w3 ⟨rfl, _, hb⟩
  have HB3 := Lib.hid (HB2.out.trans (hb.mono HB2.out.size))
  have HX3 := Lib.hid (HX2.out.keepB hb)
  clear hb HOF HB2 HX2
  refine hK _ _ ?_
  clear hK
  try simp only [Act.put, List.setIfInBounds_toArray, List.set_cons_zero, List.set_cons_succ]
  refine wpList_store_row rfl 31 (.tmp 2) (.tmp 6) rfl g (encU (shaU x)).toArray rfl rfl 31 (List.replicate 32 (Value.int .u8 0)).toArray HX3.out (by rw [encU_size]; exact szSum) (by rw [encU_size]; rfl) (encU_all _) ?_
  simp only [Act.put]
  refine wpList_nil ?_
  go_wp2_with fail
  (try simp only [Exit.inBlock, Exit.then])
  refine bodyPost_ret (v := .agg (encU (shaU x)).toArray) ?_ rfl ⟨rfl, below_row HB3.out (by have := HGE.out; omega) _⟩
  refine results_cell_row rfl _ _ g 31 _ (0, 0) _ rfl ?_ Tryz.underlying31 rfl (by rw [encU_size]; exact szSum)
  exact HX3.out.rowl _
end Go.Proofs.YtmjonlffhhehjaaGreatDoor
/- Contract: chunk.Join answers a row of the call's own. Conditions: at most a million names and pieces, no piece of more than a million bytes; the sums' tables are laid. -/
namespace Go.Proofs.YtmjonlffhhehjaaGreatDoor
open Go.RowKit
set_option maxHeartbeats 8000000 in
set_option maxRecDepth 100000 in
theorem join_own (N : List Su) (L : List Pc) (qn ql : Option Addr) (cn cl : Nat) (w : World) (hn : N.length ≤ 1000000) (hm : L.length ≤ 1000000) (hs : Sees w w.heap.size qn (rowU N)) (hl : Sees w w.heap.size ql (rowP L)) (hb : Pcb w L) (hx : ∀ p ∈ L, p.2.2.length ≤ 1000000) (hL : Laid w) :
    Calls Tryz.prog 81 #[.slice qn N.length cn, .slice ql L.length cl] w fun e w' => (∃ v, e = .returned (.tuple #[v, .int .i64 ((joinA L N []).2 : Nat)]) ∧ OwB w' w.heap.size v (joinA L N []).1) ∧ Below w.heap.size w w' := by
  have HF := Lib.hid (firsts_any L ql cl w hm hl hb)
  have HJ0 : Hid (joinA L N [] = joinA L (N.drop 0) []) := Lib.hid (by rw [List.drop_zero])
  obtain ⟨J, hJ⟩ : ∃ J, J = joinA L N [] := ⟨_, rfl⟩
  rw [← hJ] at HJ0 ⊢
  clear hJ
  have HS := Lib.hid hs
  have HLP := Lib.hid hl
  have HPB := Lib.hid hb
  have HX := Lib.hid hx
  have HL := Lib.hid hL
  have HSZ := Lib.hid hL.size
  clear hs hl hb hx hL
  go_enter Tryz.func81, Tryz.ntmps81
  go_upto_region 3 with ((with_reducible refine HF.out.mono ?_); rintro e w0 ⟨rfl, h1, h2⟩; have HM0 := Lib.hid h1; have HB0 := Lib.hid h2; clear h1 h2)
  clear HF
  obtain ⟨r, hr⟩ : ∃ r, r = w.heap.size := ⟨_, rfl⟩
  rw [← hr] at HM0 ⊢
  have HR := Lib.hid hr
  clear hr
  go_upto_region 4 with fail
  have HNIL := Lib.hid (World.ownsRow_nil w0 w0.heap.size 5 1)
  go_loopw [7, 16] (fun v vi wr => ∃ (j : Nat) (acc : List (BitVec 8)), j ≤ N.length ∧ vi = .int .i64 j ∧ acc.length ≤ 128 * j ∧ J = joinA L (N.drop j) acc ∧ wr.ownsRow w0.heap.size 5 1 v acc.length (acc.map u8v) ∧ Below w0.heap.size w0 wr) (fun _ vi _ => N.length - (intOf vi).toNat)
  case atStart => exact ⟨0, [], by omega, rfl, by simp, HJ0.out, HNIL.out, Below.refl _ _⟩
  case round =>
    clear HJ0 HNIL
    rename_i wr
    obtain ⟨j, acc, hj, rfl, hal, hJ, hrow, hB⟩ := hrel
    have HROW := Lib.hid hrow
    have HB := Lib.hid hB
    have HJ := Lib.hid hJ
    have HAL := Lib.hid hal
    clear hrow hB hJ hal
    have HBW := Lib.hid (HB0.out.trans (HB.out.mono HB0.out.size))
    by_cases hlt : j < N.length
    · obtain ⟨an, rfl, _, hcn⟩ := Ss.el (HS.out.keep HBW.out) hlt
      have hdr : N.drop j = N[j] :: N.drop (j + 1) := List.drop_eq_getElem_cons hlt
      obtain ⟨s, hsx⟩ : ∃ s, s = N[j] := ⟨_, rfl⟩
      rw [← hsx] at hcn hdr
      rw [hdr] at HJ
      have HCN := Lib.hid hcn
      clear hcn hsx hdr
      have hjj : (j : Int) < (N.length : Int) := by omega
      have hll : j < 1000000 := by omega
      go_upto_region 5 with fail
      refine wp_region_lit ?_
      try simp only [Act.put, List.setIfInBounds_toArray, List.set_cons_zero, List.set_cons_succ]
      refine lp_pure (v := ?_) (by kernel_rfl) ?_ ?_
      rotate_left
      · go_simp; try with_reducible rfl
      try simp only [Act.put, List.setIfInBounds_toArray, List.set_cons_zero, List.set_cons_succ]
      refine lp_pure (by kernel_rfl) (load_su 31 (.tmp 18) rfl (an.add (j * 32)) rfl elSum.2.1 szSum s (HCN.out _ (Below.refl _ _))) ?_
      try simp only [Act.put, List.setIfInBounds_toArray, List.set_cons_zero, List.set_cons_succ]
      refine wp_copy_su rfl 31 (zSu_run wr) szSum rfl rfl (.tmp 9) (.tmp 19) rfl s rfl rfl ?_
      intro w7 h1 h2
      have HAS := Lib.hid h1
      have HB7 := Lib.hid h2
      clear h1 h2
      have HB77 := Lib.hid (HB.out.trans (HB7.out.mono HB.out.size))
      have HM7 := Lib.hid (HM0.out.keep HB77.out HM0.out.lt)
      have HROW7 := Lib.hid (own_keep HROW.out HB7.out (fun k hk => hk))
      have hlk := lookup_u HM7.out s
      unfold aggU at hlk
      generalize wr.heap.size = g at *
      try simp only [Act.put, List.setIfInBounds_toArray, List.set_cons_zero, List.set_cons_succ]
      refine wpList_nil ?_
      go_upto_region 6 with fail
      refine wp_region_lit ?_
      try simp only [Act.put, List.setIfInBounds_toArray, List.set_cons_zero, List.set_cons_succ]
      refine lp_pure (v := ?_) (by kernel_rfl) ?_ ?_
      rotate_left
      · go_simp; try with_reducible rfl
      try simp only [Act.put, List.setIfInBounds_toArray, List.set_cons_zero, List.set_cons_succ]
      refine lp_pure (by kernel_rfl) (load_su 31 (.tmp 9) rfl ⟨g, 0, none⟩ rfl elSum.2.1 szSum s (fun j u hu => by rw [add_lit', Nat.zero_add]; exact HAS.out.cellv hu)) ?_
      try simp only [Act.put, List.setIfInBounds_toArray, List.set_cons_zero, List.set_cons_succ]
      refine lp_pure (v := ?_) (by kernel_rfl) ?_ ?_
      rotate_left
      · go_simp; try with_reducible rfl
      try simp only [Act.put, List.setIfInBounds_toArray, List.set_cons_zero, List.set_cons_succ]
      refine lp_pure (v := ?_) (by kernel_rfl) ?_ ?_
      rotate_left
      · go_simp; try with_reducible rfl
      try simp only [Act.put, List.setIfInBounds_toArray, List.set_cons_zero, List.set_cons_succ]
      refine lp_pure (v := ?_) (by kernel_rfl) ?_ ?_
      rotate_left
      · go_simp; try with_reducible rfl
      try simp only [Act.put, List.setIfInBounds_toArray, List.set_cons_zero, List.set_cons_succ]
      refine lp_pure (v := ?_) (by kernel_rfl) ?_ ?_
      rotate_left
      · go_simp; try with_reducible rfl
      try simp only [Act.put, List.setIfInBounds_toArray, List.set_cons_zero, List.set_cons_succ]
      refine lp_pure (v := ?_) (by kernel_rfl) ?_ ?_
      rotate_left
      · go_simp; try with_reducible rfl
      try simp only [Act.put, List.setIfInBounds_toArray, List.set_cons_zero, List.set_cons_succ]
      refine lp_pure (v := ?_) (by kernel_rfl) ?_ ?_
      rotate_left
      · go_simp; try with_reducible rfl
      try simp only [Act.put, List.setIfInBounds_toArray, List.set_cons_zero, List.set_cons_succ]
      refine wpList_nil ?_
      clear hlk
      cases hf : firstU L s with
      | none =>
        simp only [Option.isSome_none]
        have HE : Hid (J = ([], 5)) := Lib.hid (HJ.out.trans (joinA_none hf))
        clear hf
        go_wp2_with fail
        (try simp only [Exit.inBlock, Exit.then]); refine bodyPost_ret (results_tmp2 rfl _ _ _) rfl ?_
        rw [HE.out]
        exact ⟨⟨_, rfl, OwB.nil _ _⟩, HB0.out.trans (HB77.out.mono HB0.out.size)⟩
      | some m =>
        simp only [Option.isSome_some, Option.getD_some]
        obtain ⟨hml, hms⟩ := firstU_lt hf
        have HBL := Lib.hid (HB0.out.trans (HB77.out.mono HB0.out.size))
        obtain ⟨al, rfl, _, hcp⟩ := Sees.pc (HLP.out.keep HBL.out) hml
        have hmem : L[m] ∈ L := List.getElem_mem hml
        have hbs := (HPB.out _ hmem).keep HBL.out
        have hxl := HX.out _ hmem
        have HGT : Hid (goodPc L[m] = true → J = joinA L (N.drop (j + 1)) (acc ++ L[m].2.2) ∧ L[m].2.2.length ≤ 128) := Lib.hid (fun hg => ⟨HJ.out.trans (joinA_good hf hml hg), good_len hg⟩)
        have HGF : Hid (goodPc L[m] = false → J = ([], 11)) := Lib.hid (fun hg => HJ.out.trans (joinA_bad hf hml hg))
        obtain ⟨p, hp⟩ : ∃ p, p = L[m] := ⟨_, rfl⟩
        rw [← hp] at hcp hbs hxl HGT HGF
        have HCP := Lib.hid hcp
        have HBS := Lib.hid hbs
        have HGD := Lib.hid (pgood_any p w7 hbs (by omega) (HL.out.keep HBL.out HSZ.out))
        have km : (m : Int) < (L.length : Int) := by omega
        clear hcp hbs hxl hp hmem hms hf
        go_upto_region 9 with fail
        refine wp_region_lit ?_
        try simp only [Act.put, List.setIfInBounds_toArray, List.set_cons_zero, List.set_cons_succ]
        refine lp_pure (v := ?_) (by kernel_rfl) ?_ ?_
        rotate_left
        · go_simp; try with_reducible rfl
        try simp only [Act.put, List.setIfInBounds_toArray, List.set_cons_zero, List.set_cons_succ]
        refine lp_pure (v := ?_) (by kernel_rfl) ?_ ?_
        rotate_left
        · go_simp; try with_reducible rfl
        try simp only [Act.put, List.setIfInBounds_toArray, List.set_cons_zero, List.set_cons_succ]
        refine lp_pure (v := ?_) (by kernel_rfl) ?_ ?_
        rotate_left
        · go_simp; try with_reducible rfl
        try simp only [Act.put, List.setIfInBounds_toArray, List.set_cons_zero, List.set_cons_succ]
        refine lp_pure (by kernel_rfl) (load_pc 42 87 elPc (.tmp 30) rfl (al.add (m * 33)) rfl p (HCP.out _ (Below.refl _ _))) ?_
        try simp only [Act.put, List.setIfInBounds_toArray, List.set_cons_zero, List.set_cons_succ]
        refine lp_step (by kernel_rfl) (fun K hK => ?_)
        go_wp2_with fail
        refine Calls.mono (HGD.out) ?_
        rintro e w8 ⟨rfl, hB8⟩
        have HB8 := Lib.hid hB8
        have HBE := Lib.hid (HBL.out.trans (hB8.mono HBL.out.size))
        clear hB8
        refine hK _ _ ?_
        clear hK
        try simp only [Act.put, List.setIfInBounds_toArray, List.set_cons_zero, List.set_cons_succ]
        refine lp_pure (v := ?_) (by kernel_rfl) ?_ ?_
        rotate_left
        · go_simp; try with_reducible rfl
        try simp only [Act.put, List.setIfInBounds_toArray, List.set_cons_zero, List.set_cons_succ]
        refine wpList_nil ?_
        cases hg : goodPc p with
        | false =>
          have HE := Lib.hid (HGF.out hg)
          clear hg
          go_wp2_with fail
          (try simp only [Exit.inBlock, Exit.then]); refine bodyPost_ret (results_tmp2 rfl _ _ _) rfl ?_
          rw [HE.out]
          exact ⟨⟨_, rfl, OwB.nil _ _⟩, HBE.out⟩
        | true =>
          obtain ⟨hE, hpl⟩ := HGT.out hg
          have HE := Lib.hid hE
          have HPL := Lib.hid hpl
          have HROW8 := Lib.hid (own_keep HROW7.out HB8.out (fun k hk => hk))
          obtain ⟨qp, cp, hpv, hcp1, hqp, hsp⟩ := HBS.out.keep HB8.out
          have c32 := HCP.out w8 (HB8.out.mono HBL.out.size) 32 _ (encP_b p)
          rw [hpv] at c32
          have e32 : (⟨(al.add (m * 33)).block, (al.add (m * 33)).off + 32, none⟩ : Addr) = (al.add (m * 33)).add 32 := rfl
          rw [← e32] at c32
          have HQP := Lib.hid hqp
          have HSP := Lib.hid hsp
          have HLE : Hid (acc.length + p.2.2.length ≤ 140737488355328) := Lib.hid (by have := HAL.out; omega)
          have HBZ : Hid (w0.heap.size ≤ w8.heap.size) := Lib.hid (Nat.le_trans HB77.out.size HB8.out.size)
          clear hg hE hpl hpv hcp1 hqp hsp e32
          go_wp2_with (refine wpList_append_sees rfl (.tmp 34) (.tmp 39) rfl w0.heap.size _ acc.length (acc.map u8v) rfl HROW8.out qp p.2.2 cp w8.heap.size rfl HQP.out HSP.out HLE.out HBZ.out ?_; intro v9 w9 h1 h2; have HROW9 := Lib.hid h1; have HB9 := Lib.hid h2; clear h1 h2)
          go_roundw
          case rel =>
            have hr := HROW9.out
            rw [← List.length_append, ← List.map_append] at hr
            exact ⟨j + 1, acc ++ p.2.2, by omega, by go_num, by rw [List.length_append]; have h1 := HAL.out; have h2 := HPL.out; omega, HE.out, hr, (HB77.out.trans (HB8.out.mono HB77.out.size)).trans HB9.out⟩
          case measure => simp [intOf]; omega
    · have hjl : j = N.length := by omega
      subst hjl
      have k3 : ¬ ((N.length : Int) < (N.length : Int)) := by omega
      have hj0 := HJ.out
      rw [List.drop_length, joinA_nil] at hj0
      have HE := Lib.hid hj0
      have HBO := Lib.hid (OwB.less (base := w0.heap.size) (v := _) (x := acc) HROW.out HB0.out.size)
      clear hlt hj0
      go_wp2_with fail
      (try simp only [Exit.inBlock, Exit.then]); refine bodyPost_ret (results_tmp2 rfl _ _ _) rfl ?_
      rw [HE.out]
      exact ⟨⟨_, rfl, HBO.out⟩, HBW.out⟩
end Go.Proofs.YtmjonlffhhehjaaGreatDoor
/- Contract: recipe's bakeLine. Conditions: at most a million names and pieces, no piece of more than a million bytes; the sums' tables are laid. -/
namespace Go.Proofs.YtmjonlffhhehjaaGreatDoor
open Go.RowKit
/-- A line's bytes, put together; or what is wrong. -/
def bakeL (M : List Pc) (k : Lk) : List (BitVec 8) × Nat :=
  if k.2.1 = true then ([], 0) else if (joinA M k.2.2.2 []).2 = 0 then (if shaU (joinA M k.2.2.2 []).1 = k.2.2.1 then ((joinA M k.2.2.2 []).1, 0) else ([], 11)) else ([], (joinA M k.2.2.2 []).2)
theorem szEn : (Tryz.prog.info? 47).map (·.size) = some 3 := by kernel_rfl
theorem joinA_len (M : List Pc) : ∀ (N : List Su) (acc : List (BitVec 8)), (joinA M N acc).1.length ≤ acc.length + 128 * N.length
  | [], acc => by simp [joinA]
  | s :: N, acc => by
    unfold joinA
    split
    · simp
    · split
      · simp
      · split
        · rename_i p _ hg
          have h := joinA_len M N (acc ++ p.2.2)
          have := good_len hg
          rw [List.length_append] at h
          rw [List.length_cons]; omega
        · simp
theorem OwB.offRow {w : World} {base g : Nat} {v : Value} {x : List (BitVec 8)} {t : TypeId} {l : List Value} (h : OwB w base v x) (hg : Has w g t l) (cs : Array Value) (ht : 5 ≠ t := by decide) : OwB (w.setRow g cs) base v x := by
  rcases h.2 with ⟨rfl, h0⟩ | ⟨g', cap, cur, rfl, hb', hg', h1, h2, h3, h4⟩
  · exact ⟨h.1, .inl ⟨rfl, h0⟩⟩
  · have hne : g' ≠ g := fun e => by
      subst e
      unfold Has at hg
      rw [hg'] at hg
      injection hg with hg
      injection hg with _ ht'
      exact ht ht'
    exact ⟨h.1, .inr ⟨g', cap, cur, rfl, hb', (setRow_other w g g' cs hne).trans hg', h1, h2, h3, h4⟩⟩
/-- A call answers an entry and a number. -/
def BakeR (base : Nat) (M : List Pc) (k : Lk) (e : Ending) (w' : World) : Prop :=
  ∃ r : Ent, e = .returned (.tuple #[entV r, .int .i64 ((bakeL M k).2 : Nat)]) ∧ OwB w' base r.val r.by ∧ ((bakeL M k).2 = 0 → r.1 = k.1 ∧ r.2.1 = k.2.1 ∧ r.by = (bakeL M k).1)
set_option maxHeartbeats 8000000 in
set_option maxRecDepth 100000 in
theorem bakeLine_any (p : Ln) (M : List Pc) (ql : Option Addr) (cl : Nat) (w : World) (hn : p.2.2.2.2.length ≤ 100000) (hm : M.length ≤ 1000000) (hu : Us w p.2.2.2.1 p.2.2.2.2) (hl : Sees w w.heap.size ql (rowP M)) (hb : Pcb w M) (hx : ∀ p ∈ M, p.2.2.length ≤ 1000000) (hL : Laid w) :
    Calls Tryz.prog 40 #[.agg (encL p).toArray, .slice ql M.length cl] w fun e w' => BakeR w.heap.size M (keyL p) e w' ∧ Below w.heap.size w w' := by
  obtain ⟨x, d, s, v, N⟩ := p
  obtain ⟨q, c, hv, hc, hq, hs⟩ := hu
  simp only [] at hv hn hc hs
  subst hv
  have hx0 : Has (w.alloc (.cells (encL (x, d, s, .slice q N.length c, N)).toArray 34)) w.heap.size 34 (encL (x, d, s, .slice q N.length c, N)) := Has.made' w _ _ _ rfl
  have HAS := Lib.hid (hx0.keepB ((Below.refl _ _).alloc (Nat.le_refl _) (.cells #[.string ⟨#[]⟩, .bool false, .slice none 0 0] 47)))
  have HZ : Hid (Has ((w.alloc (.cells (encL (x, d, s, .slice q N.length c, N)).toArray 34)).alloc (.cells #[.string ⟨#[]⟩, .bool false, .slice none 0 0] 47)) (w.heap.size + 1) 47 [.string ⟨#[]⟩, .bool false, .slice none 0 0]) := Lib.hid (Has.made1 w _ _ _ _ rfl)
  have HB0 := Lib.hid (((Below.refl w.heap.size w).alloc (Nat.le_refl _) (.cells (encL (x, d, s, .slice q N.length c, N)).toArray 34)).alloc (by simp) (.cells #[.string ⟨#[]⟩, .bool false, .slice none 0 0] 47))
  have HJ : Hid (∀ w1, Below w.heap.size w w1 → Calls Tryz.prog 81 #[.slice q N.length c, .slice ql M.length cl] w1 fun e w' => (∃ v, e = .returned (.tuple #[v, .int .i64 ((joinA M N []).2 : Nat)]) ∧ OwB w' w1.heap.size v (joinA M N []).1) ∧ Below w1.heap.size w1 w') := Lib.hid (fun w1 h => join_own N M q ql c cl w1 (by omega) hm ((hs.keep h).more h.size) ((hl.keep h).more h.size) (hb.keep h) hx (hL.keep h hL.size))
  have HL := Lib.hid hL
  have HJL := Lib.hid (joinA_len M N [])
  have HNL := Lib.hid hn
  have HC0 : Hid ((encL (x, d, s, .slice q N.length c, N))[0]? = some (.string x)) := Lib.hid rfl
  have HC1 : Hid ((encL (x, d, s, .slice q N.length c, N))[1]? = some (.bool d)) := Lib.hid rfl
  have HCS : Hid (∀ j u, (encU s)[j]? = some u → (encL (x, d, s, .slice q N.length c, N))[j + 2]? = some u) := Lib.hid (fun j u h => encL_su (p := (x, d, s, .slice q N.length c, N)) h)
  have HC34 : Hid ((encL (x, d, s, .slice q N.length c, N))[34]? = some (.slice q N.length c)) := Lib.hid (encL_n _)
  have HKL : Hid (bakeL M (keyL (x, d, s, .slice q N.length c, N)) = if d = true then ([], 0) else if (joinA M N []).2 = 0 then (if shaU (joinA M N []).1 = s then ((joinA M N []).1, 0) else ([], 11)) else ([], (joinA M N []).2)) := Lib.hid rfl
  have HK1 : Hid ((keyL (x, d, s, .slice q N.length c, N)).1 = x ∧ (keyL (x, d, s, .slice q N.length c, N)).2.1 = d) := Lib.hid ⟨rfl, rfl⟩
  generalize keyL (x, d, s, .slice q N.length c, N) = kk at *
  generalize joinA M N [] = J at *
  obtain ⟨jb, je⟩ := J
  clear hs hL hc hq hl hb hx hn hx0
  go_enter Tryz.func40, Tryz.ntmps40
  go_upto_region 1 with fail
  generalize (w.alloc (.cells (encL (x, d, s, .slice q N.length c, N)).toArray 34)).alloc (.cells #[.string ⟨#[]⟩, .bool false, .slice none 0 0] 47) = w0 at *
  generalize encL (x, d, s, .slice q N.length c, N) = L at *
  obtain ⟨g, hg⟩ : ∃ g, g = w.heap.size := ⟨_, rfl⟩
  rw [← hg] at HAS HZ ⊢
  have HGE := Lib.hid hg
  clear hg
  have c0 := HAS.out.cellv HC0.out
  have c1 := HAS.out.cellv HC1.out
  have c34 := HAS.out.cellv HC34.out
  cases d with
  | true =>
    go_upto_region 2 with fail
    refine wp_region_lit ?_
    try simp only [Act.put, List.setIfInBounds_toArray, List.set_cons_zero, List.set_cons_succ]
    refine lp_pure (v := ?_) (by kernel_rfl) ?_ ?_
    rotate_left
    · go_simp; try with_reducible rfl
    try simp only [Act.put, List.setIfInBounds_toArray, List.set_cons_zero, List.set_cons_succ]
    refine lp_pure (v := ?_) (by kernel_rfl) ?_ ?_
    rotate_left
    · go_simp; try with_reducible rfl
    try simp only [Act.put, List.setIfInBounds_toArray, List.set_cons_zero, List.set_cons_succ]
    refine lp_pure (v := ?_) (by kernel_rfl) ?_ ?_
    rotate_left
    · go_simp; try with_reducible rfl
    try simp only [Act.put, List.setIfInBounds_toArray, List.set_cons_zero, List.set_cons_succ]
    refine wpList_store_row rfl 47 (.tmp 4) (.tmp 12) rfl (g + 1) #[.string x, .bool true, .slice none 0 0] rfl rfl 47 [Value.string ⟨#[]⟩, .bool false, .slice none 0 0].toArray HZ.out (by rw [szEn]; rfl) rfl (by kernel_rfl) ?_
    simp only [Act.put]
    refine lp_pure (v := ?_) (by kernel_rfl) ?_ ?_
    rotate_left
    · go_simp; try with_reducible rfl
    try simp only [Act.put, List.setIfInBounds_toArray, List.set_cons_zero, List.set_cons_succ]
    refine wpList_nil ?_
    go_wp2_with fail
    (try simp only [Exit.inBlock, Exit.then])
    refine bodyPost_ret (v := .tuple #[.agg #[.string x, .bool true, .slice none 0 0], .int .i64 0]) ?_ rfl ⟨?_, below_row HB0.out (by have := HGE.out; omega) _⟩
    · exact results_two rfl _ _ (g + 1) 47 _ (0, 0) rfl (HZ.out.rowl [_, _, _]) _ rfl Tryz.underlying47 (by exact szEn)
    · have hk : bakeL M kk = ([], 0) := by have := HKL.out; simpa using this
      unfold BakeR
      rw [hk]
      exact ⟨(x, true, .slice none 0 0, []), rfl, OwB.nil _ _, fun _ => ⟨HK1.out.1.symm, HK1.out.2.symm, rfl⟩⟩
  | false =>
    cases je with
    | succ n =>
      have k1 : ((((n + 1 : Nat) : Int)) == 0) = false := beq_false_of_ne (by omega)
      have k2 : (((n : Int) + 1) == 0) = false := beq_false_of_ne (by omega)
      have k3 : ¬ ((n : Int) + 1 = 0) := by omega
      go_upto_region 5 with ((with_reducible refine (HJ.out _ HB0.out).mono ?_); rintro e w1 ⟨⟨v1, rfl, how⟩, hb⟩; have HB1 := Lib.hid (HB0.out.trans (hb.mono HB0.out.size)); have HA1 := Lib.hid (HAS.out.keepB hb); have HZ1 := Lib.hid (HZ.out.keepB hb); have HW1 := Lib.hid (OwB.less how HB0.out.size); clear hb how)
      clear k1 k2 k3 c0 c1 c34 HAS HZ HB0 HJ HA1 HW1
      refine wp_region_lit ?_
      try simp only [Act.put, List.setIfInBounds_toArray, List.set_cons_zero, List.set_cons_succ]
      refine lp_pure (v := ?_) (by kernel_rfl) ?_ ?_
      rotate_left
      · go_simp; try with_reducible rfl
      try simp only [Act.put, List.setIfInBounds_toArray, List.set_cons_zero, List.set_cons_succ]
      refine lp_pure (v := ?_) (by kernel_rfl) ?_ ?_
      rotate_left
      · go_simp; try with_reducible rfl
      try simp only [Act.put, List.setIfInBounds_toArray, List.set_cons_zero, List.set_cons_succ]
      refine wpList_store_row rfl 47 (.tmp 4) (.tmp 22) rfl (g + 1) #[.string ⟨#[]⟩, .bool false, .slice none 0 0] rfl rfl 47 [Value.string ⟨#[]⟩, .bool false, .slice none 0 0].toArray HZ1.out (by rw [szEn]; rfl) rfl (by kernel_rfl) ?_
      simp only [Act.put]
      refine lp_pure (v := ?_) (by kernel_rfl) ?_ ?_
      rotate_left
      · go_simp; try with_reducible rfl
      try simp only [Act.put, List.setIfInBounds_toArray, List.set_cons_zero, List.set_cons_succ]
      refine wpList_nil ?_
      go_wp2_with fail
      (try simp only [Exit.inBlock, Exit.then])
      refine bodyPost_ret (v := .tuple #[.agg #[.string ⟨#[]⟩, .bool false, .slice none 0 0], .int .i64 ((n + 1 : Nat) : Int)]) ?_ rfl ⟨?_, below_row HB1.out (by have := HGE.out; omega) _⟩
      · exact results_two rfl _ _ (g + 1) 47 _ (0, 0) rfl (HZ1.out.rowl [_, _, _]) _ rfl Tryz.underlying47 (by exact szEn)
      · have hk : bakeL M kk = ([], n + 1) := by have := HKL.out; simpa using this
        unfold BakeR
        rw [hk]
        exact ⟨(⟨#[]⟩, false, .slice none 0 0, []), rfl, OwB.nil _ _, fun h => by simp at h⟩
    | zero =>
      have HJL2 : Hid (jb.length ≤ 100000000) := Lib.hid (by have h1 := HJL.out; have h2 := HNL.out; simp only [List.length_nil] at h1; omega)
      go_upto_region 6 with ((with_reducible refine (HJ.out _ HB0.out).mono ?_); rintro e w1 ⟨⟨v1, rfl, how⟩, hb⟩; have HB1 := Lib.hid (HB0.out.trans (hb.mono HB0.out.size)); have HA1 := Lib.hid (HAS.out.keepB hb); have HZ1 := Lib.hid (HZ.out.keepB hb); have HW1 := Lib.hid (OwB.less how HB0.out.size); clear hb how)
      clear c0 c1 c34 HAS HZ HB0 HJ HJL
      obtain ⟨q1, d1, hv1, r1⟩ := HW1.out.bs
      subst hv1
      have HBS : Hid (Bs w1 (.slice q1 jb.length d1) jb) := Lib.hid ⟨q1, d1, rfl, r1⟩
      clear r1
      refine wp_region_org [(0, true), (3, true), (4, true), (1, false), (2, false), (5, true)] (by kernel_rfl) (by kernel_rfl) (by kernel_rfl) ?_
      have HB2 := Lib.hid HB1.out.drew
      have HA2 : Hid (Has w1.drew g 34 L) := Lib.hid HA1.out.drew
      have HZ2 : Hid (Has w1.drew (g + 1) 47 [.string ⟨#[]⟩, .bool false, .slice none 0 0]) := Lib.hid HZ1.out.drew
      have HW2 : Hid (OwB w1.drew w.heap.size (.slice q1 jb.length d1) jb) := Lib.hid (World.ownsRow.drew HW1.out)
      have HS2 : Hid (Bs w1.drew (.slice q1 jb.length d1) jb) := Lib.hid HBS.out
      clear HB1 HA1 HZ1 HW1 HBS
      generalize w1.drew = wd at *
      have HCU : Hid (∀ w', Ext wd w' → ∀ j u, (encU s)[j]? = some u → w'.cell? ((⟨g, 2, none⟩ : Addr).add j) = some u) := Lib.hid (fun w' hv j u hu => by rw [add_lit', Nat.add_comm]; exact (HA2.out.keepB hv).cellv (HCS.out j u hu))
      simp only [pickOrs, List.getElem?_cons_zero, List.getElem?_cons_succ]
      refine org_pure (v := ?_) (by kernel_rfl) ?_ ?_
      rotate_left
      · intro w' hv; clear hv; go_simp; try with_reducible rfl
      try simp only [Act.put, List.setIfInBounds_toArray, List.set_cons_zero, List.set_cons_succ]
      refine org_pure (v := ?_) (by kernel_rfl) ?_ ?_
      rotate_left
      · intro w' hv; clear hv; go_simp; try with_reducible rfl
      try simp only [Act.put, List.setIfInBounds_toArray, List.set_cons_zero, List.set_cons_succ]
      refine org_pure (by kernel_rfl) (fun w' hv => load_su 31 (.tmp 27) rfl ⟨g, 2, none⟩ rfl elSum.2.1 szSum s (HCU.out _ hv)) ?_
      try simp only [Act.put, List.setIfInBounds_toArray, List.set_cons_zero, List.set_cons_succ]
      refine org_step (by kernel_rfl) (fun K hK => wp_one_bs (.tmp 24) rfl q1 jb.length d1 rfl (hK _ _ ⟨(Below.refl _ _).alloc (Nat.le_refl _) _, ?_⟩))
      try simp only [Act.put, List.setIfInBounds_toArray, List.set_cons_zero, List.set_cons_succ]
      have HOF := Lib.hid (of_big HS2.out HJL2.out (HL.out.keep HB2.out HL.out.size))
      refine org_step (by kernel_rfl) (fun K hK => ?_)
      go_wp2_with fail
      refine Calls.mono HOF.out ?_
      rintro e w3 ⟨rfl, hb0, hb⟩
      have HB3 := Lib.hid (HB2.out.trans (hb.mono HB2.out.size))
      have HA3 := Lib.hid (HA2.out.keepB hb)
      have HZ3 := Lib.hid (HZ2.out.keepB hb)
      have HW3 := Lib.hid (HW2.out.keep hb)
      refine hK _ _ ⟨hb0, ?_⟩
      clear hK hb hb0 HOF HB2 HA2 HZ2 HW2 HS2 HCU
      try simp only [Act.put, List.setIfInBounds_toArray, List.set_cons_zero, List.set_cons_succ]
      refine org_pure (by kernel_rfl) (fun w' hv => neq_su 31 (.tmp 26) (.tmp 28) _ rfl (shaU jb) s rfl rfl elSum.2.1 gdSumZ) ?_
      try simp only [Act.put, List.setIfInBounds_toArray, List.set_cons_zero, List.set_cons_succ]
      refine org_nil ?_
      have c0 := HA3.out.cellv HC0.out
      by_cases he : shaU jb = s
      · rw [decide_eq_true he]
        have HE := Lib.hid he
        clear he
        go_upto_region 8 with fail
        refine wp_region_lit ?_
        try simp only [Act.put, List.setIfInBounds_toArray, List.set_cons_zero, List.set_cons_succ]
        refine lp_pure (v := ?_) (by kernel_rfl) ?_ ?_
        rotate_left
        · go_simp; try with_reducible rfl
        try simp only [Act.put, List.setIfInBounds_toArray, List.set_cons_zero, List.set_cons_succ]
        refine lp_pure (v := ?_) (by kernel_rfl) ?_ ?_
        rotate_left
        · go_simp; try with_reducible rfl
        try simp only [Act.put, List.setIfInBounds_toArray, List.set_cons_zero, List.set_cons_succ]
        refine lp_pure (v := ?_) (by kernel_rfl) ?_ ?_
        rotate_left
        · go_simp; try with_reducible rfl
        try simp only [Act.put, List.setIfInBounds_toArray, List.set_cons_zero, List.set_cons_succ]
        refine lp_pure (v := ?_) (by kernel_rfl) ?_ ?_
        rotate_left
        · go_simp; try with_reducible rfl
        try simp only [Act.put, List.setIfInBounds_toArray, List.set_cons_zero, List.set_cons_succ]
        refine wpList_store_row rfl 47 (.tmp 4) (.tmp 34) rfl (g + 1) #[.string x, .bool false, .slice q1 jb.length d1] rfl rfl 47 [Value.string ⟨#[]⟩, .bool false, .slice none 0 0].toArray HZ3.out (by rw [szEn]; rfl) rfl (by kernel_rfl) ?_
        simp only [Act.put]
        refine lp_pure (v := ?_) (by kernel_rfl) ?_ ?_
        rotate_left
        · go_simp; try with_reducible rfl
        try simp only [Act.put, List.setIfInBounds_toArray, List.set_cons_zero, List.set_cons_succ]
        refine wpList_nil ?_
        have HW4 := Lib.hid (OwB.offRow HW3.out HZ3.out #[.string x, .bool false, .slice q1 jb.length d1])
        go_wp2_with fail
        (try simp only [Exit.inBlock, Exit.then])
        refine bodyPost_ret (v := .tuple #[.agg #[.string x, .bool false, .slice q1 jb.length d1], .int .i64 0]) ?_ rfl ⟨?_, below_row HB3.out (by have := HGE.out; omega) _⟩
        · exact results_two rfl _ _ (g + 1) 47 _ (0, 0) rfl (HZ3.out.rowl [_, _, _]) _ rfl Tryz.underlying47 (by exact szEn)
        · have hk : bakeL M kk = (jb, 0) := by have := HKL.out; simp only [Bool.false_eq_true, if_false, if_true, HE.out] at this; exact this
          unfold BakeR
          rw [hk]
          exact ⟨(x, false, .slice q1 jb.length d1, jb), rfl, HW4.out, fun _ => ⟨HK1.out.1.symm, HK1.out.2.symm, rfl⟩⟩
      · rw [decide_eq_false he]
        have HE := Lib.hid he
        clear he
        go_upto_region 7 with fail
        refine wp_region_lit ?_
        try simp only [Act.put, List.setIfInBounds_toArray, List.set_cons_zero, List.set_cons_succ]
        refine lp_pure (v := ?_) (by kernel_rfl) ?_ ?_
        rotate_left
        · go_simp; try with_reducible rfl
        try simp only [Act.put, List.setIfInBounds_toArray, List.set_cons_zero, List.set_cons_succ]
        refine wpList_store_row rfl 47 (.tmp 4) (.tmp 30) rfl (g + 1) #[.string ⟨#[]⟩, .bool false, .slice none 0 0] rfl rfl 47 [Value.string ⟨#[]⟩, .bool false, .slice none 0 0].toArray HZ3.out (by rw [szEn]; rfl) rfl (by kernel_rfl) ?_
        simp only [Act.put]
        refine lp_pure (v := ?_) (by kernel_rfl) ?_ ?_
        rotate_left
        · go_simp; try with_reducible rfl
        try simp only [Act.put, List.setIfInBounds_toArray, List.set_cons_zero, List.set_cons_succ]
        refine wpList_nil ?_
        go_wp2_with fail
        (try simp only [Exit.inBlock, Exit.then])
        refine bodyPost_ret (v := .tuple #[.agg #[.string ⟨#[]⟩, .bool false, .slice none 0 0], .int .i64 11]) ?_ rfl ⟨?_, below_row HB3.out (by have := HGE.out; omega) _⟩
        · exact results_two rfl _ _ (g + 1) 47 _ (0, 0) rfl (HZ3.out.rowl [_, _, _]) _ rfl Tryz.underlying47 (by exact szEn)
        · have hk : bakeL M kk = ([], 11) := by have := HKL.out; simp only [Bool.false_eq_true, if_false, if_true, HE.out] at this; exact this
          unfold BakeR
          rw [hk]
          exact ⟨(⟨#[]⟩, false, .slice none 0 0, []), rfl, OwB.nil _ _, fun h => by simp at h⟩
end Go.Proofs.YtmjonlffhhehjaaGreatDoor
/- Contract: recipe's Bake. Conditions: paths shorter than 2^63 bytes, fewer than 2^63 lines and names of a line; at most a million pieces of at most a million bytes; the sums' tables are laid. -/
namespace Go.Proofs.YtmjonlffhhehjaaGreatDoor
open Go.RowKit
/-- An entry without where its bytes lie. -/
abbrev Ek := ByteArray × Bool × List (BitVec 8)
def keyE (e : Ent) : Ek := (e.1, e.2.1, e.by)
def entE (k : Ek) : Ent := (k.1, k.2.1, .slice none 0 0, k.2.2)
def goodE (R : List Ek) : Bool := goodP (R.map entE)
def bl1 (e : Ent) : Ent := entE (keyE e)
theorem bl_at (p : Tx) : ∀ C : List Ent, atT (C.map bl1) p = atT C p
  | [] => rfl
  | e :: C => by
    show (if e.pa = p then (0 : Int) else if atT (C.map bl1) p < 0 then -1 else atT (C.map bl1) p + 1) = _
    rw [bl_at p C]; rfl
theorem bl_dir (C : List Ent) (k : Nat) : dirT (C.map bl1) k = dirT C k := by
  unfold dirT
  rw [List.getElem?_map]
  cases C[k]? <;> rfl
theorem bl_room (C : List Ent) (p : Tx) : roomT (C.map bl1) p = roomT C p := by unfold roomT; rw [bl_at, bl_dir]
theorem bl_bytes (C : List Ent) : bytesT (C.map bl1) = bytesT C := by unfold bytesT; rw [List.map_map]; rfl
theorem bl_goodQ : ∀ (C pre : List Ent), goodQ (pre.map bl1) (C.map bl1) = goodQ pre C
  | [], _ => rfl
  | e :: C, pre => by
    show (okEnt e && (prevB (pre.map bl1).getLast? e.pa && (decide (roomT (pre.map bl1) e.pa = 0) && goodQ (pre.map bl1 ++ [bl1 e]) (C.map bl1)))) = _
    have h1 : pre.map bl1 ++ [bl1 e] = (pre ++ [e]).map bl1 := by rw [List.map_append]; rfl
    have h2 : prevB (pre.map bl1).getLast? e.pa = prevB pre.getLast? e.pa := by
      rw [List.getLast?_map]
      cases pre.getLast? <;> rfl
    rw [h1, h2, bl_room, bl_goodQ C (pre ++ [e])]
    rfl
theorem bl_good (C : List Ent) : goodE (C.map keyE) = goodP C := by
  unfold goodE
  rw [List.map_map, show entE ∘ keyE = bl1 from rfl]
  unfold goodP fitsT
  rw [List.length_map, bl_bytes, show goodQ [] (C.map bl1) = goodQ [] C from bl_goodQ C []]
def bakeK (M : List Pc) (k : Lk) : Ek := (k.1, k.2.1, (bakeL M k).1)
/-- The tree baked; or what is wrong. -/
def bakeP (M : List Pc) (R : List Lk) : List Ek × Nat :=
  if goodK R = true then (match R.find? fun k => decide ((bakeL M k).2 ≠ 0) with
    | some k => ([], (bakeL M k).2)
    | none => if goodE (R.map (bakeK M)) = true then (R.map (bakeK M), 0) else ([], 9)) else ([], 1)
/-- A call answers a tree and a number. -/
def BakedR (r : List Ek × Nat) (e : Ending) (w' : World) : Prop := ∃ (v : Value) (T : List Ent), e = .returned (.tuple #[.agg #[v], .int .i64 (r.2 : Nat)]) ∧ TrV w' v T ∧ Ents w' T ∧ T.map keyE = r.1
/-- The entries' bytes are the call's own. -/
def EntO (w : World) (base : Nat) (T : List Ent) : Prop := ∀ e ∈ T, OwB w base e.val e.by
theorem EntO.keep {w w' : World} {base : Nat} {T : List Ent} (h : EntO w base T) (hb : Below w.heap.size w w') : EntO w' base T := fun e he => (h e he).keep hb
theorem OwB.set {w : World} {base : Nat} {v : Value} {x : List (BitVec 8)} (h : OwB w base v x) {p : Addr} (hp : p.block < base) (u : Value) : OwB (w.setCell p u) base v x := by
  rcases h.2 with ⟨rfl, h0⟩ | ⟨g', cap, cur, rfl, hb', hg', h1, h2, h3, h4⟩
  · exact ⟨h.1, .inl ⟨rfl, h0⟩⟩
  · exact ⟨h.1, .inr ⟨g', cap, cur, rfl, hb', (Below.heap_setCell w p u g' (by omega)).trans hg', h1, h2, h3, h4⟩⟩
theorem EntO.set {w : World} {base : Nat} {T : List Ent} (h : EntO w base T) {p : Addr} (hp : p.block < base) (u : Value) : EntO (w.setCell p u) base T := fun e he => (h e he).set hp u
theorem EntO.grown {w w' : World} {base b : Nat} {T C : List Ent} {v : Value} (h : EntO w base T) (ho : OwnT w b v C) (hg : w.grownBy w' v.ownBlock) : EntO w' base T := fun e he => World.ownsRow.kept (h e he) hg (own_apart (h e he) ho (by decide))
theorem EntO.ents {w : World} {base : Nat} {T : List Ent} (h : EntO w base T) : Ents w T := fun e he => (h e he).bs
theorem EntO.snoc {w : World} {base : Nat} {T : List Ent} {e : Ent} (h : EntO w base T) (he : OwB w base e.val e.by) : EntO w base (T ++ [e]) := fun x hx => by
  rcases List.mem_append.1 hx with h1 | h1
  · exact h x h1
  · rw [List.mem_singleton.1 h1]; exact he
theorem szTr : (Tryz.prog.info? 28).map (·.size) = some 1 := by kernel_rfl
theorem TrV.nil (w : World) : TrV w (.slice none 0 0) [] := ⟨none, 0, rfl, Nat.le_refl _, fun _ => rfl, Sees.nil _ _ _⟩
theorem zEn_run (w : World) : (zeroValue 47).run Tryz.prog w = .ok (.agg #[.string ⟨#[]⟩, .bool false, .slice none 0 0]) w := by kernel_rfl
theorem bakeL_len (M : List Pc) (k : Lk) (h : k.2.2.2.length ≤ 2048) : (bakeL M k).1.length ≤ 262144 := by
  have hj := joinA_len M k.2.2.2 []
  simp only [List.length_nil] at hj
  unfold bakeL
  split
  · simp
  · split
    · split
      · show (joinA M k.2.2.2 []).1.length ≤ 262144
        omega
      · simp
    · simp
theorem bytesT_le : ∀ {T : List Ent} {n : Nat}, (∀ e ∈ T, e.by.length ≤ n) → bytesT T ≤ n * T.length
  | [], n, _ => by simp [bytesT]
  | e :: T, n, h => by
    have h1 := bytesT_le (T := T) (n := n) (fun x hx => h x (List.mem_cons_of_mem _ hx))
    have h2 := h e (List.mem_cons_self ..)
    have h3 : bytesT (e :: T) = e.by.length + bytesT T := by unfold bytesT; rw [List.map_cons, List.sum_cons]
    rw [h3, List.length_cons, Nat.mul_add]; omega
theorem find_first {α : Type} (f : α → Bool) : ∀ {A : List α} {k : α} {B : List α}, (∀ x ∈ A, f x = false) → f k = true → (A ++ k :: B).find? f = some k
  | [], k, B, _, h => by rw [List.nil_append, List.find?_cons_of_pos h]
  | a :: A, k, B, hA, h => by rw [List.cons_append, List.find?_cons_of_neg (by rw [hA a (List.mem_cons_self ..)]; simp)]; exact find_first f (fun x hx => hA x (List.mem_cons_of_mem _ hx)) h
theorem find_nothing {α : Type} (f : α → Bool) {A : List α} (h : ∀ x ∈ A, f x = false) : A.find? f = none := List.find?_eq_none.2 (fun x hx => by rw [h x hx]; simp)
set_option maxHeartbeats 16000000 in
set_option maxRecDepth 100000 in
theorem bake12_any (L : List Ln) (q : Option Addr) (c : Nat) (M : List Pc) (ql : Option Addr) (cl : Nat) (w : World) (hm : L.length < 9223372036854775808) (hn : ∀ l ∈ L, l.1.size < 9223372036854775808 ∧ l.2.2.2.2.length < 9223372036854775808) (hs : Sees w w.heap.size q (rowL L)) (hb : Lnb w L)
    (hpm : M.length ≤ 1000000) (hl : Sees w w.heap.size ql (rowP M)) (hpb : Pcb w M) (hx : ∀ p ∈ M, p.2.2.length ≤ 1000000) (hL : Laid w) :
    Calls Tryz.prog 11 #[.slice q L.length c, .slice ql M.length cl] w fun e w' => BakedR (bakeP M (L.map keyL)) e w' ∧ Below w.heap.size w w' := by
  have HG := Lib.hid (fun w1 (h : Below w.heap.size w w1) => goodK_any L q c w1 hm hn ((hs.keep h).more h.size) (hb.keep h))
  have HS := Lib.hid hs
  have HLB := Lib.hid hb
  have HSM : Hid (goodK (L.map keyL) = true → L.length ≤ 40 ∧ ∀ l ∈ L, l.1.size ≤ 68 ∧ l.2.2.2.2.length ≤ 2048) := Lib.hid (fun h => ⟨by have := (goodK_parts h).1; rwa [List.length_map] at this, fun l hl => ⟨goodK_size h (keyL l) (List.mem_map_of_mem hl), okLn_names ((goodK_parts h).2.1 (keyL l) (List.mem_map_of_mem hl))⟩⟩)
  have HBL := Lib.hid (fun (p : Ln) (w1 : World) (h : Below w.heap.size w w1) (hn : p.2.2.2.2.length ≤ 100000) (hu : Us w1 p.2.2.2.1 p.2.2.2.2) => bakeLine_any p M ql cl w1 hn hpm hu ((hl.keep h).more h.size) (hpb.keep h) hx (hL.keep h hL.size))
  obtain ⟨V, hV⟩ : ∃ V, bakeP M (L.map keyL) = V := ⟨_, rfl⟩
  rw [hV]
  unfold bakeP at hV
  have HV := Lib.hid hV
  clear hs hb hn hV hl hpb hx hL
  generalize hGK : goodK (L.map keyL) = GK at *
  clear hGK
  have HR0 : Hid (Has (w.alloc (.cells #[.slice none 0 0] 28)) w.heap.size 28 [.slice none 0 0]) := Lib.hid (Has.made w _ _)
  have HB0 := Lib.hid ((Below.refl w.heap.size w).alloc (Nat.le_refl _) (.cells #[.slice none 0 0] 28))
  go_enter Tryz.func11, Tryz.ntmps11
  go_upto_region 1 with fail
  generalize w.alloc (.cells #[.slice none 0 0] 28) = w0 at *
  obtain ⟨g, hg⟩ : ∃ g, g = w.heap.size := ⟨_, rfl⟩
  rw [← hg] at HR0 ⊢
  have HGE := Lib.hid hg
  clear hg
  cases GK with
  | false =>
    have hv : ([], 1) = V := by simpa using HV.out
    subst hv
    go_upto_region 2 with ((with_reducible refine (HG.out _ HB0.out).mono ?_); rintro e w1 ⟨rfl, hb⟩; have HB1 := Lib.hid (HB0.out.trans (hb.mono HB0.out.size)); have HR1 := Lib.hid (HR0.out.keepB hb); have cr := HR1.out.cellv (i := 0) rfl; have fr := HR1.out.free 0; clear hb)
    go_wp2_with fail
    (try simp only [Exit.inBlock, Exit.then])
    refine bodyPost_ret (v := .tuple #[.agg #[.slice none 0 0], .int .i64 1]) ?_ rfl ⟨⟨_, [], rfl, TrV.nil _, (fun _ h => nomatch h), rfl⟩, HB1.out.setCell (by have := HGE.out; show w.heap.size ≤ g; omega) _⟩
    exact results_two rfl _ _ g 28 _ (0, 0) rfl (HR1.out.put 0 _) _ rfl Tryz.underlying28 (by exact szTr)
  | true =>
  have HV1 : Hid ((match (L.map keyL).find? fun k => decide ((bakeL M k).2 ≠ 0) with | some k => ([], (bakeL M k).2) | none => if goodE ((L.map keyL).map (bakeK M)) = true then ((L.map keyL).map (bakeK M), 0) else ([], 9)) = V) := Lib.hid (by simpa using HV.out)
  have HSZ := Lib.hid (HSM.out (by trivial))
  clear HV HSM
  go_upto_region 3 with ((with_reducible refine (HG.out _ HB0.out).mono ?_); rintro e w1 ⟨rfl, hb⟩; have HB1 := Lib.hid (HB0.out.trans (hb.mono HB0.out.size)); have HR1 := Lib.hid (HR0.out.keepB hb); clear hb)
  clear HB0 HR0 HG
  have hlt1 := HR1.out.lt
  have HLT1 := Lib.hid hlt1
  go_upto_region 5 with fail
  have HX2 : Hid (Has (w1.alloc (.cells #[.slice none 0 0] 28)) w1.heap.size 28 [.slice none 0 0]) := Lib.hid (Has.made w1 _ _)
  have HA2 : Hid (Below w1.heap.size w1 (w1.alloc (.cells #[.slice none 0 0] 28))) := Lib.hid ((Below.refl _ _).alloc (Nat.le_refl _) _)
  have HB2 := Lib.hid (HB1.out.trans (HA2.out.mono HB1.out.size))
  have HR2 := Lib.hid (HR1.out.keepB HA2.out)
  generalize w1.alloc (.cells #[.slice none 0 0] 28) = w2 at *
  have HGT : Hid (g < w1.heap.size ∧ w.heap.size ≤ g) := Lib.hid ⟨hlt1, by have := HGE.out; omega⟩
  clear hlt1 HLT1 HA2 HB1 HR1
  obtain ⟨gt, hgt⟩ : ∃ gt, gt = w1.heap.size := ⟨_, rfl⟩
  rw [← hgt] at HX2 HGT ⊢
  clear hgt
  have HO2 := Lib.hid (OwnT.nil w2 (gt + 1))
  go_loopw [17] (fun vi wr => ∃ (j : Nat) (v : Value) (T : List Ent), j ≤ L.length ∧ vi = .int .i64 j ∧ Has wr g 28 [.slice none 0 0] ∧ Has wr gt 28 [v] ∧ OwnT wr (gt + 1) v T ∧ EntO wr (gt + 1) T ∧ T.map keyE = ((L.take j).map keyL).map (bakeK M) ∧ (∀ l ∈ L.take j, (bakeL M (keyL l)).2 = 0) ∧ Below w.heap.size w wr) (fun vi _ => L.length - (intOf vi).toNat)
  case atStart => exact ⟨0, _, [], by omega, rfl, HR2.out, HX2.out, HO2.out, (fun _ h => nomatch h), rfl, (fun _ h => nomatch h), HB2.out⟩
  case round =>
    clear HR2 HX2 HO2 HB2
    rename_i wr
    obtain ⟨j, v, T, hj, rfl, hR, hX, hO, hT, hkey, hall, hB⟩ := hrel
    have HR := Lib.hid hR
    have HX := Lib.hid hX
    have HO := Lib.hid hO
    have HT := Lib.hid hT
    have HK := Lib.hid hkey
    have HALL := Lib.hid hall
    have HB := Lib.hid hB
    clear hR hX hO hT hkey hall hB
    have HTL : Hid (T.length = j) := Lib.hid (by have := congrArg List.length HK.out; simpa [List.length_take, Nat.min_eq_left hj] using this)
    by_cases hlt : j < L.length
    · obtain ⟨ad, rfl, _, hcell⟩ := Sees.ln (HS.out.keep HB.out) hlt
      obtain ⟨p, hp⟩ : ∃ p, p = L[j] := ⟨_, rfl⟩
      have hmem : p ∈ L := by rw [hp]; exact List.getElem_mem hlt
      have HTK : Hid (L.take (j + 1) = L.take j ++ [p]) := Lib.hid (by rw [List.take_add_one, List.getElem?_eq_getElem hlt, ← hp]; rfl)
      have HDR : Hid (L = L.take j ++ p :: L.drop (j + 1)) := Lib.hid (by conv => lhs; rw [← List.take_append_drop j L, List.drop_eq_getElem_cons hlt, ← hp])
      rw [← hp] at hcell
      have hus := (HLB.out p hmem).keep HB.out
      have hsz := HSZ.out.2 p hmem
      have HUS := Lib.hid hus
      have HONE := Lib.hid hus.one
      have HSP := Lib.hid hsz
      have HCELL := Lib.hid (hcell wr (Below.refl _ _))
      have hjj : (j : Int) < (L.length : Int) := by omega
      have kll : j < 1000000 := by have := HSZ.out.1; omega
      clear hcell hus hp hmem hsz
      go_upto_region 6 with fail
      refine wp_region_lit ?_
      try simp only [Act.put, List.setIfInBounds_toArray, List.set_cons_zero, List.set_cons_succ]
      refine lp_pure (v := ?_) (by kernel_rfl) ?_ ?_
      rotate_left
      · go_simp; try with_reducible rfl
      try simp only [Act.put, List.setIfInBounds_toArray, List.set_cons_zero, List.set_cons_succ]
      refine lp_pure (by kernel_rfl) (load_ln 24 34 elLn (.tmp 19) rfl (ad.add (j * 35)) rfl p HCELL.out) ?_
      try simp only [Act.put, List.setIfInBounds_toArray, List.set_cons_zero, List.set_cons_succ]
      refine wp_copy_ln rfl rfl rfl (.tmp 8) (.tmp 20) rfl p HONE.out rfl rfl ?_
      intro w7 h1 h2
      have HP := Lib.hid h1
      have HR7 := Lib.hid (HR.out.keepB h2)
      have HX7 := Lib.hid (HX.out.keepB h2)
      have HO7 := Lib.hid (HO.out.keep h2)
      have HT7 := Lib.hid (HT.out.keep h2)
      have HB7 := Lib.hid (HB.out.trans (h2.mono HB.out.size))
      have HBK := Lib.hid (HBL.out p w7 HB7.out (by have := HSP.out.2; omega) (HUS.out.keep h2))
      clear h1 h2 HCELL HUS HONE
      clear HR HX HO HT HB
      generalize wr.heap.size = b at *
      try simp only [Act.put, List.setIfInBounds_toArray, List.set_cons_zero, List.set_cons_succ]
      refine wpList_nil ?_
      go_upto_region 7 with fail
      refine wp_region_lit ?_
      try simp only [Act.put, List.setIfInBounds_toArray, List.set_cons_zero, List.set_cons_succ]
      refine lp_pure (by kernel_rfl) (load_boxL (.tmp 8) rfl b rfl p HP.out) ?_
      try simp only [Act.put, List.setIfInBounds_toArray, List.set_cons_zero, List.set_cons_succ]
      refine lp_pure (v := ?_) (by kernel_rfl) ?_ ?_
      rotate_left
      · go_simp; try with_reducible rfl
      try simp only [Act.put, List.setIfInBounds_toArray, List.set_cons_zero, List.set_cons_succ]
      refine lp_step (by kernel_rfl) (fun K hK => ?_)
      go_wp2_with fail
      refine Calls.mono (HBK.out) ?_
      rintro e w8 ⟨⟨r, rfl, hwo, hre⟩, hb⟩
      have HR8 := Lib.hid (HR7.out.keepB hb)
      have HX8 := Lib.hid (HX7.out.keepB hb)
      have HO8 := Lib.hid (HO7.out.keep hb)
      have HT8 := Lib.hid (HT7.out.keep hb)
      have HB8 := Lib.hid (HB7.out.trans (hb.mono HB7.out.size))
      obtain ⟨rx, rd, rv, rb⟩ := r
      have HWO : Hid (OwB w8 (gt + 1) rv rb) := Lib.hid (OwB.less hwo (by have := HX7.out.lt; omega))
      have HRE : Hid ((bakeL M (keyL p)).2 = 0 → rx = p.1 ∧ rd = p.2.1 ∧ rb = (bakeL M (keyL p)).1) := Lib.hid hre
      have hve : entV (rx, rd, rv, rb) = .agg #[.string rx, .bool rd, rv] := rfl
      rw [hve]
      clear hb hwo hre hve HBK HP
      clear HR7 HX7 HO7 HT7 HB7
      refine hK _ _ ?_
      clear hK
      try simp only [Act.put, List.setIfInBounds_toArray, List.set_cons_zero, List.set_cons_succ]
      refine lp_pure (v := ?_) (by kernel_rfl) ?_ ?_
      rotate_left
      · go_simp; try with_reducible rfl
      try simp only [Act.put, List.setIfInBounds_toArray, List.set_cons_zero, List.set_cons_succ]
      refine lp_pure (v := ?_) (by kernel_rfl) ?_ ?_
      rotate_left
      · go_simp; try with_reducible rfl
      try simp only [Act.put, List.setIfInBounds_toArray, List.set_cons_zero, List.set_cons_succ]
      refine lp_pure (v := ?_) (by kernel_rfl) ?_ ?_
      rotate_left
      · go_simp; try with_reducible rfl
      try simp only [Act.put, List.setIfInBounds_toArray, List.set_cons_zero, List.set_cons_succ]
      refine wpList_alloc rfl _ rfl #[.string ⟨#[]⟩, .bool false, .slice none 0 0] (zEn_run w8) ?_
      try simp only [Act.put, List.setIfInBounds_toArray, List.set_cons_zero, List.set_cons_succ]
      have HE9 := Lib.hid (Has.made w8 47 #[.string ⟨#[]⟩, .bool false, .slice none 0 0])
      have HA9 := Lib.hid ((Below.refl w8.heap.size w8).alloc (Nat.le_refl _) (.cells #[.string ⟨#[]⟩, .bool false, .slice none 0 0] 47))
      obtain ⟨q9, c9, hv9, r9⟩ := HWO.out.bs
      subst hv9
      clear r9
      refine wpList_store_row rfl 47 (.tmp 9) (.tmp 25) rfl w8.heap.size #[.string rx, .bool rd, .slice q9 rb.length c9] rfl rfl 47 [Value.string ⟨#[]⟩, .bool false, .slice none 0 0].toArray HE9.out (by rw [szEn]; rfl) rfl (by kernel_rfl) ?_
      simp only [Act.put]
      have hbz : Below w8.heap.size w8 ((w8.alloc (.cells #[.string ⟨#[]⟩, .bool false, .slice none 0 0] 47)).setRow w8.heap.size #[.string rx, .bool rd, .slice q9 rb.length c9]) := below_row HA9.out (Nat.le_refl _) _
      have HE : Hid (Has ((w8.alloc (.cells #[.string ⟨#[]⟩, .bool false, .slice none 0 0] 47)).setRow w8.heap.size #[.string rx, .bool rd, .slice q9 rb.length c9]) w8.heap.size 47 [.string rx, .bool rd, .slice q9 rb.length c9]) := Lib.hid (HE9.out.rowl [_, _, _])
      have HR9 := Lib.hid (HR8.out.keepB hbz)
      have HX9 := Lib.hid (HX8.out.keepB hbz)
      have HO9 := Lib.hid (HO8.out.keep hbz)
      have HT9 := Lib.hid (HT8.out.keep hbz)
      have HB9 := Lib.hid (HB8.out.trans (hbz.mono HB8.out.size))
      have HW9 := Lib.hid (HWO.out.keep hbz)
      generalize (w8.alloc (.cells #[.string ⟨#[]⟩, .bool false, .slice none 0 0] 47)).setRow w8.heap.size #[.string rx, .bool rd, .slice q9 rb.length c9] = w9 at *
      clear hbz HE9 HA9 HWO
      clear HR8 HX8 HO8 HT8 HB8
      generalize w8.heap.size = be at *
      refine lp_pure (v := ?_) (by kernel_rfl) ?_ ?_
      rotate_left
      · go_simp; try with_reducible rfl
      try simp only [Act.put, List.setIfInBounds_toArray, List.set_cons_zero, List.set_cons_succ]
      refine wpList_nil ?_
      cases hc : (bakeL M (keyL p)).2 with
      | succ n =>
        have HF : Hid (([], n + 1) = V) := Lib.hid (by
          have h := HV1.out
          rw [HDR.out, List.map_append, List.map_cons, find_first _ (fun x hx => by
            obtain ⟨l, hl, rfl⟩ := List.mem_map.1 hx
            rw [HALL.out l hl]; rfl) (by rw [hc]; rfl)] at h
          have h' : ([], (bakeL M (keyL p)).2) = V := h
          rw [hc] at h'
          exact h')
        have k1 : ((((n + 1 : Nat) : Int)) == 0) = false := beq_false_of_ne (by omega)
        have k2 : (((n : Int) + 1) == 0) = false := beq_false_of_ne (by omega)
        have k3 : ¬ ((n : Int) + 1 = 0) := by omega
        have cr := HR9.out.cellv (i := 0) rfl
        have fr := HR9.out.free 0
        clear hc
        go_upto_region 9 with fail
        clear k1 k2 k3
        go_wp2_with fail
        (try simp only [Exit.inBlock, Exit.then])
        have hv := HF.out
        subst hv
        refine bodyPost_ret (v := .tuple #[.agg #[.slice none 0 0], .int .i64 ((n + 1 : Nat) : Int)]) ?_ rfl ⟨⟨_, [], rfl, TrV.nil _, (fun _ h => nomatch h), rfl⟩, HB9.out.setCell (by have := HGE.out; show w.heap.size ≤ g; omega) _⟩
        exact results_two rfl _ _ g 28 _ (0, 0) rfl (HR9.out.put 0 _) _ rfl Tryz.underlying28 (by exact szTr)
      | zero =>
        have HRE2 := Lib.hid (HRE.out hc)
        have HALL2 : Hid (∀ l ∈ L.take (j + 1), (bakeL M (keyL l)).2 = 0) := Lib.hid (fun l hl => by
          rw [HTK.out] at hl
          rcases List.mem_append.1 hl with h1 | h1
          · exact HALL.out l h1
          · rw [List.mem_singleton.1 h1]; exact hc)
        have HK2 : Hid ((T ++ [((rx, rd, Value.slice q9 rb.length c9, rb) : Ent)]).map keyE = ((L.take (j + 1)).map keyL).map (bakeK M)) := Lib.hid (by
          rw [HTK.out, List.map_append, List.map_append, List.map_append, HK.out]
          congr 1
          obtain ⟨e1, e2, e3⟩ := HRE2.out
          show [(rx, rd, rb)] = [((keyL p).1, (keyL p).2.1, (bakeL M (keyL p)).1)]
          rw [e1, e2, e3]; rfl)
        clear hc HRE HRE2 HALL HK
        have ce0 := HE.out.cellv (i := 0) rfl
        have ce1 := HE.out.cellv (i := 1) rfl
        have ce2 := HE.out.cellv (i := 2) rfl
        have cv := HX9.out.cellv (i := 0) rfl
        have HBG : Hid (gt + 1 ≤ w9.heap.size) := Lib.hid HX9.out.lt
        have HLEN : Hid (T.length ≤ 1000000) := Lib.hid (by have := HTL.out; omega)
        go_wp2_with (refine wp_addTe rfl (.tmp 32) (.tmp 34) rfl (HO9.out.keep ((Below.refl _ _).alloc (Nat.le_refl _) _)) (by have := HBG.out; simp; omega) rfl w9.heap.size (rx, rd, .slice q9 rb.length c9, rb) rfl (Has.made' _ _ _ _ rfl) rfl HLEN.out ?_; intro v10 w10 h1 h2; obtain ⟨x10, m10, c10, rfl⟩ := own_slice' h1; have HO10 := Lib.hid h1; have HB10 : Hid (Below (gt + 1) w9 w10) := Lib.hid (((Below.refl (gt + 1) w9).alloc HBG.out _).grown h2 (by have := HBG.out; simp; omega) (fun k hk => OwnT.lt HO9.out k hk)); have HX10 := Lib.hid (HX9.out.keep HB10.out (Nat.lt_succ_self gt)); have HR10 := Lib.hid (HR9.out.keep HB10.out (Nat.lt_succ_of_lt HGT.out.1)); have HT10 : Hid (EntO w10 (gt + 1) (T ++ [((rx, rd, Value.slice q9 rb.length c9, rb) : Ent)])) := Lib.hid (((EntO.snoc (e := ((rx, rd, Value.slice q9 rb.length c9, rb) : Ent)) HT9.out HW9.out).keep ((Below.refl _ _).alloc (Nat.le_refl _) _)).grown (HO9.out.keep ((Below.refl _ _).alloc (Nat.le_refl _) _)) h2); have cc10 := HX10.out.cellv (i := 0) rfl; have ff10 := HX10.out.free 0; clear h1 h2)
        have HBF := Lib.hid (HB9.out.trans (HB10.out.mono (by have := HGT.out; omega)))
        go_roundw
        case rel =>
          refine ⟨j + 1, .slice x10 m10 c10, _, by omega, by go_num, HR10.out.off (Nat.ne_of_lt HGT.out.1) _, HX10.out.put 0 _, HO10.out.set (Nat.lt_succ_self gt) _, HT10.out.set (Nat.lt_succ_self gt) _, HK2.out, HALL2.out, HBF.out.setCell (by have := HGT.out; show w.heap.size ≤ gt; omega) _⟩
        case measure => simp [intOf]; omega
    · have hjl : j = L.length := by omega
      subst hjl
      have kk : ¬ ((L.length : Int) < (L.length : Int)) := by omega
      have hk := HK.out
      have ha := HALL.out
      rw [List.take_length] at hk ha
      have hfn : (L.map keyL).find? (fun k => decide ((bakeL M k).2 ≠ 0)) = none := find_nothing _ (fun x hx => by
        obtain ⟨l, hl, rfl⟩ := List.mem_map.1 hx
        rw [ha l hl]; rfl)
      have hv := HV1.out
      rw [hfn, ← hk] at hv
      have hv' : (if goodE (T.map keyE) = true then (T.map keyE, 0) else ([], 9)) = V := hv
      rw [bl_good] at hv'
      have HV2 := Lib.hid hv'
      have hmem : ∀ e ∈ T, ∃ l ∈ L, e.1 = l.1 ∧ e.by = (bakeL M (keyL l)).1 := fun e he => by
        have h1 : keyE e ∈ (L.map keyL).map (bakeK M) := by rw [← hk]; exact List.mem_map_of_mem he
        obtain ⟨k, hk1, hk2⟩ := List.mem_map.1 h1
        obtain ⟨l, hl, rfl⟩ := List.mem_map.1 hk1
        exact ⟨l, hl, (congrArg Prod.fst hk2).symm, (congrArg (fun z : Ek => z.2.2) hk2).symm⟩
      have hbt : bytesT T ≤ 262144 * T.length := bytesT_le (fun e he => by
        obtain ⟨l, hl, _, h2⟩ := hmem e he
        rw [h2]
        exact bakeL_len M (keyL l) (HSZ.out.2 l hl).2)
      obtain ⟨qv, cv, hvv, hcv, hqv, hse⟩ := HO.out.tr
      have h40 := HSZ.out.1
      have htl := HTL.out
      have HGD := Lib.hid (tgood_any T qv cv (by omega) hcv (by omega) (fun e he => by
        obtain ⟨l, hl, h1, _⟩ := hmem e he
        rw [h1]; have := (HSZ.out.2 l hl).1; omega) wr hse HT.out.ents)
      have HTV : Hid (∀ w', Below wr.heap.size wr w' → TrV w' (.slice qv T.length cv) T) := Lib.hid (fun w' h => TrV.keep ⟨qv, cv, rfl, hcv, hqv, hse⟩ h)
      subst hvv
      have HE := Lib.hid HT.out
      have HOT := Lib.hid HO.out
      have cb := HX.out.cellv (i := 0) rfl
      clear hk ha hfn hv hv' hmem hbt hcv hqv hse h40 htl HK HALL HV1
      generalize goodP T = GP at *
      cases GP with
      | false =>
        have hv : ([], 9) = V := by simpa using HV2.out
        subst hv
        go_upto_region 13 with ((with_reducible refine HGD.out.mono ?_); rintro e w8 ⟨rfl, hb⟩; have HB8 := Lib.hid (HB.out.trans (hb.mono HB.out.size)); have HR8 := Lib.hid (HR.out.keepB hb); have cr := HR8.out.cellv (i := 0) rfl; have fr := HR8.out.free 0; clear hb)
        go_wp2_with fail
        (try simp only [Exit.inBlock, Exit.then])
        refine bodyPost_ret (v := .tuple #[.agg #[.slice none 0 0], .int .i64 9]) ?_ rfl ⟨⟨_, [], rfl, TrV.nil _, (fun _ h => nomatch h), rfl⟩, HB8.out.setCell (by have := HGE.out; show w.heap.size ≤ g; omega) _⟩
        exact results_two rfl _ _ g 28 _ (0, 0) rfl (HR8.out.put 0 _) _ rfl Tryz.underlying28 (by exact szTr)
      | true =>
        have hv : (T.map keyE, 0) = V := by simpa using HV2.out
        subst hv
        go_upto_region 14 with ((with_reducible refine HGD.out.mono ?_); rintro e w8 ⟨rfl, hb⟩; have HB8 := Lib.hid (HB.out.trans (hb.mono HB.out.size)); have HR8 := Lib.hid (HR.out.keepB hb); have HX8 := Lib.hid (HX.out.keepB hb); have HO8 := Lib.hid (HO.out.keep hb); have HT8 := Lib.hid (HT.out.keep hb); have cr := HR8.out.cellv (i := 0) rfl; have fr := HR8.out.free 0; have cb8 := HX8.out.cellv (i := 0) rfl; clear hb)
        go_wp2_with fail
        (try simp only [Exit.inBlock, Exit.then])
        refine bodyPost_ret (v := .tuple #[.agg #[.slice qv T.length cv], .int .i64 0]) ?_ rfl ⟨⟨_, T, rfl, (HO8.out.set (show g < gt + 1 from Nat.lt_succ_of_lt HGT.out.1) _).tr, (HT8.out.set (show g < gt + 1 from Nat.lt_succ_of_lt HGT.out.1) _).ents, rfl⟩, HB8.out.setCell (by have := HGE.out; show w.heap.size ≤ g; omega) _⟩
        exact results_two rfl _ _ g 28 _ (0, 0) rfl (HR8.out.put 0 _) _ rfl Tryz.underlying28 (by exact szTr)
end Go.Proofs.YtmjonlffhhehjaaGreatDoor
/- Contracts: the law's own sets as the document's (the law's 'own'), the document's own Good, Same, Has. Condition: at most 10^5 sums. -/
namespace Go.Proofs.YtmjonlffhhehjaaGreatDoor
open Go.RowKit
theorem elRef : ElT 70 72 := ⟨Tryz.underlying70, Tryz.underlying72, by kernel_rfl⟩
theorem elRefs : ElT 69 72 := ⟨Tryz.underlying69, Tryz.underlying72, by kernel_rfl⟩
theorem szRef : (Tryz.prog.info? 72).map (·.size) = some 32 := by kernel_rfl
theorem gdRef : Tryz.prog.eqGuardType Tryz.prog.depth 72 = false := by kernel_rfl
end Go.Proofs.YtmjonlffhhehjaaGreatDoor
/- Contracts: the law's own names and recipeOf: as the document's. Conditions: at most a million each. -/
namespace Go.Proofs.YtmjonlffhhehjaaGreatDoor
open Go.RowKit
theorem elRl : ElL 50 102 := ⟨Tryz.underlying50, ⟨_, Tryz.underlying102⟩, by kernel_rfl⟩
theorem built_rl (x : ByteArray) (d : Bool) (s : Su) (q : Option Addr) (n c : Nat) (N : List Su) : Tryz.prog.built 102 [(0, .string x), (1, .bool d), (2, .agg (encU s).toArray), (3, .slice q n c)] = some (encL (x, d, s, .slice q n c, N)).toArray := by
  obtain ⟨l, hl⟩ := s
  unfold encL encU
  match l, hl with
  | [a0, a1, a2, a3, a4, a5, a6, a7, a8, a9, b0, b1, b2, b3, b4, b5, b6, b7, b8, b9, c0, c1, c2, c3, c4, c5, c6, c7, c8, c9, d0, d1], _ => show _ = _; kernel_rfl
set_option maxHeartbeats 4000000 in
set_option maxRecDepth 100000 in
theorem names12_any (L : List Su) (q : Option Addr) (c : Nat) (w : World) (hm : L.length ≤ 1000000) (hs : Sees w w.heap.size q (rowU L)) :
    Calls Tryz.prog 47 #[.slice q L.length c] w fun e w' => (∃ v, e = .returned v ∧ OwnU w' w.heap.size 72 v L) ∧ Below w.heap.size w w' := by
  have HS := Lib.hid hs
  have HNIL := Lib.hid (OwnU.nil w w.heap.size 72)
  clear hs
  go_enter Tryz.func47, Tryz.ntmps47
  go_upto_region 3 with fail
  go_loopw [3, 4] (fun v vi wr => ∃ j : Nat, j ≤ L.length ∧ vi = .int .i64 j ∧ OwnU wr w.heap.size 72 v (L.take j) ∧ Below w.heap.size w wr) (fun _ vi _ => L.length - (intOf vi).toNat)
  case atStart => exact ⟨0, by omega, rfl, HNIL.out, Below.refl _ _⟩
  case round =>
    clear HNIL
    rename_i wr
    obtain ⟨j, hj, rfl, hrow, hB⟩ := hrel
    have HROW := Lib.hid hrow
    have HB := Lib.hid hB
    clear hrow hB
    by_cases hlt : j < L.length
    · obtain ⟨ad, rfl, _, hcell⟩ := Ss.el HS.out hlt
      have HTK : Hid (L.take (j + 1) = L.take j ++ [L[j]]) := Lib.hid (by rw [List.take_add_one, List.getElem?_eq_getElem hlt]; rfl)
      obtain ⟨s, hp⟩ : ∃ p, p = L[j] := ⟨_, rfl⟩
      rw [← hp] at hcell HTK
      have HC := Lib.hid (hcell wr HB.out)
      have kk : (j : Int) < (L.length : Int) := by omega
      have kll : j < 1000000 := by omega
      have HLEN : Hid ((L.take j).length + 1 ≤ 4000000) := Lib.hid (by rw [List.length_take]; omega)
      clear hcell hp
      go_upto_region 5 with fail
      refine wp_region_lit ?_
      try simp only [Act.put, List.setIfInBounds_toArray, List.set_cons_zero, List.set_cons_succ]
      refine lp_pure (v := ?_) (by kernel_rfl) ?_ ?_
      rotate_left
      · go_simp; try with_reducible rfl
      try simp only [Act.put, List.setIfInBounds_toArray, List.set_cons_zero, List.set_cons_succ]
      refine lp_pure (v := ?_) (by kernel_rfl) ?_ ?_
      rotate_left
      · go_simp; try with_reducible rfl
      try simp only [Act.put, List.setIfInBounds_toArray, List.set_cons_zero, List.set_cons_succ]
      refine lp_pure (v := ?_) (by kernel_rfl) ?_ ?_
      rotate_left
      · go_simp; try with_reducible rfl
      try simp only [Act.put, List.setIfInBounds_toArray, List.set_cons_zero, List.set_cons_succ]
      refine lp_pure (v := ?_) (by kernel_rfl) ?_ ?_
      rotate_left
      · go_simp; try with_reducible rfl
      try simp only [Act.put, List.setIfInBounds_toArray, List.set_cons_zero, List.set_cons_succ]
      refine lp_pure (by kernel_rfl) (load_su 31 (.tmp 14) rfl (ad.add (j * 32)) rfl elSum.2.1 szSum s HC.out) ?_
      try simp only [Act.put, List.setIfInBounds_toArray, List.set_cons_zero, List.set_cons_succ]
      refine wpList_one_su rfl 69 72 elRefs (.tmp 15) rfl s rfl ?_
      try simp only [Act.put, List.setIfInBounds_toArray, List.set_cons_zero, List.set_cons_succ]
      refine wpList_append_su rfl 69 72 elRefs (.tmp 11) (.tmp 16) rfl w.heap.size _ (L.take j) rfl (HROW.out.keep ((Below.refl _ _).alloc (Nat.le_refl _) _)) (some ⟨wr.heap.size, 0, none⟩) [s] 1 1 (wr.heap.size + 1) rfl rfl (fun h => by cases h) (Ss.one (Has.made' _ _ _ _ rfl) (by omega)) HLEN.out (by have := HB.out.size; simp; omega) ?_
      intro v8 w8 h1 h2
      have HROW2 := Lib.hid h1
      have HB8 := Lib.hid h2
      clear h1 h2
      try simp only [Act.put, List.setIfInBounds_toArray, List.set_cons_zero, List.set_cons_succ]
      refine lp_pure (v := ?_) (by kernel_rfl) ?_ ?_
      rotate_left
      · go_simp; try with_reducible rfl
      try simp only [Act.put, List.setIfInBounds_toArray, List.set_cons_zero, List.set_cons_succ]
      refine wpList_nil ?_
      go_wp2_with fail
      go_roundw
      case rel => exact ⟨j + 1, by omega, by go_num, by rw [HTK.out]; exact HROW2.out, (HB.out.trans ((Below.refl _ _).alloc HB.out.size _)).trans HB8.out⟩
      case measure => simp [intOf]; omega
    · have hjl : j = L.length := by omega
      subst hjl
      have kk : ¬ ((L.length : Int) < (L.length : Int)) := by omega
      have hrow := HROW.out
      rw [List.take_length] at hrow
      have HR := Lib.hid hrow
      clear hlt hrow
      go_wp2_with fail
      go_ret
      exact ⟨⟨_, rfl, HR.out⟩, HB.out⟩
set_option maxHeartbeats 8000000 in
set_option maxRecDepth 100000 in
theorem recipeOf_any (L : List Ln) (q : Option Addr) (c : Nat) (w : World) (hm : L.length ≤ 1000000) (hn : ∀ l ∈ L, l.2.2.2.2.length ≤ 1000000) (hs : Sees w w.heap.size q (rowL L)) (hb : Lnb w L) :
    Calls Tryz.prog 17 #[.slice q L.length c] w fun e w' => (∃ v R, e = .returned v ∧ LnV w' v R ∧ LnO w' w.heap.size 72 R ∧ R.map keyL = L.map keyL) ∧ Below w.heap.size w w' := by
  have HS := Lib.hid hs
  have HLB := Lib.hid hb
  have HN := Lib.hid hn
  have HNIL := Lib.hid (OwnL.nil w w.heap.size 102)
  clear hs hb hn
  go_enter Tryz.func17, Tryz.ntmps17
  go_upto_region 3 with fail
  go_loopw [3, 4] (fun v vi wr => ∃ (j : Nat) (R : List Ln), j ≤ L.length ∧ R.length = j ∧ vi = .int .i64 j ∧ OwnL wr w.heap.size 102 v R ∧ LnO wr w.heap.size 72 R ∧ R.map keyL = (L.take j).map keyL ∧ Below w.heap.size w wr) (fun _ vi _ => L.length - (intOf vi).toNat)
  case atStart => exact ⟨0, [], by omega, rfl, rfl, HNIL.out, LnO.nil _ _ _, rfl, Below.refl _ _⟩
  case round =>
    clear HNIL
    rename_i wr
    obtain ⟨j, R, hj, hrl, rfl, hrow, hln, hkey, hB⟩ := hrel
    have HROW := Lib.hid hrow
    have HLN := Lib.hid hln
    have HKEY := Lib.hid hkey
    have HB := Lib.hid hB
    have HRL := Lib.hid hrl
    clear hrow hln hkey hB hrl
    by_cases hlt : j < L.length
    · obtain ⟨ad, rfl, _, hcell⟩ := Sees.ln HS.out hlt
      obtain ⟨p, hp⟩ : ∃ p, p = L[j] := ⟨_, rfl⟩
      have hmem : p ∈ L := by rw [hp]; exact List.getElem_mem hlt
      have HTK : Hid ((L.take (j + 1)).map keyL = (L.take j).map keyL ++ [keyL p]) := Lib.hid (by rw [List.take_add_one, List.getElem?_eq_getElem hlt, ← hp, List.map_append]; rfl)
      rw [← hp] at hcell
      have hus := HLB.out p hmem
      have hpn := HN.out p hmem
      obtain ⟨x, d, s, v, N⟩ := p
      obtain ⟨qn, cn, hv, r1, r2, r3⟩ := hus
      have hv' : v = .slice qn (List.length N) cn := hv
      subst hv'
      have HNM : Hid (∀ w1, Below w.heap.size w w1 → Calls Tryz.prog 47 #[.slice qn N.length cn] w1 fun e w' => (∃ v, e = .returned v ∧ OwnU w' w1.heap.size 72 v N) ∧ Below w1.heap.size w1 w') := Lib.hid (fun w1 h => names12_any N qn cn w1 hpn ((r3.keep h).more h.size))
      have e2 : (⟨(ad.add (j * 35)).block, (ad.add (j * 35)).off + 2, none⟩ : Addr) = (ad.add (j * 35)).add 2 := rfl
      have HC0 : Hid (∀ w', Below w.heap.size wr.drew w' → w'.cell? (ad.add (j * 35)) = some (.string x)) := Lib.hid (fun w' h => by have := hcell w' (HB.out.drew.trans h) 0 _ (encL_0 _); rwa [add_add, Nat.add_zero] at this)
      have HC1 : Hid (∀ w', Below w.heap.size wr.drew w' → w'.cell? ⟨(ad.add (j * 35)).block, (ad.add (j * 35)).off + 1, none⟩ = some (.bool d)) := Lib.hid (fun w' h => hcell w' (HB.out.drew.trans h) 1 _ (encL_1 _))
      have HC34 : Hid (∀ w', Below w.heap.size wr.drew w' → w'.cell? ⟨(ad.add (j * 35)).block, (ad.add (j * 35)).off + 34, none⟩ = some (.slice qn N.length cn)) := Lib.hid (fun w' h => hcell w' (HB.out.drew.trans h) 34 _ (encL_n (x, d, s, .slice qn N.length cn, N)))
      have HCU : Hid (∀ w', Below w.heap.size wr.drew w' → ∀ k u, (encU s)[k]? = some u → w'.cell? ((⟨(ad.add (j * 35)).block, (ad.add (j * 35)).off + 2, none⟩ : Addr).add k) = some u) := Lib.hid (fun w' h k u hu => by rw [e2, add_add, Nat.add_comm]; exact hcell w' (HB.out.drew.trans h) _ u (encL_su (p := (x, d, s, .slice qn N.length cn, N)) hu))
      have hjj : (j : Int) < (L.length : Int) := by omega
      have kll : j < 1000000 := by omega
      clear hcell hp hmem hv hpn r1 r2 r3 e2
      go_upto_region 5 with fail
      refine wp_region_ors (fun w' => Below w.heap.size wr.drew w') [(0, true), (1, true), (2, true), (3, true), (4, true), (5, true), (6, true), (7, true), (8, true), (9, true), (10, true), (11, true), (12, true), (13, true), (14, true), (15, true), (16, true), (17, true), (18, true), (19, true), (20, true), (21, false), (22, true), (23, false), (24, false), (25, true)] (by kernel_rfl) (by kernel_rfl) (by kernel_rfl) (Below.refl _ _) ?_
      have HROW2 : Hid (OwnL wr.drew w.heap.size 102 _ R) := Lib.hid HROW.out
      have HLN2 : Hid (LnO wr.drew w.heap.size 72 R) := Lib.hid HLN.out
      have HB2 := Lib.hid HB.out.drew
      clear HROW HLN HB
      generalize wr.drew = wd at *
      simp only [pickOrs, List.getElem?_cons_zero, List.getElem?_cons_succ]
      refine ors_pure (v := ?_) (by kernel_rfl) ?_ ?_
      rotate_left
      · intro w' hv; clear hv; go_simp; try with_reducible rfl
      try simp only [Act.put, List.setIfInBounds_toArray, List.set_cons_zero, List.set_cons_succ]
      refine ors_pure (v := ?_) (by kernel_rfl) ?_ ?_
      rotate_left
      · intro w' hv; clear hv; go_simp; try with_reducible rfl
      try simp only [Act.put, List.setIfInBounds_toArray, List.set_cons_zero, List.set_cons_succ]
      refine ors_pure (v := ?_) (by kernel_rfl) ?_ ?_
      rotate_left
      · intro w' hv; clear hv; go_simp; try with_reducible rfl
      try simp only [Act.put, List.setIfInBounds_toArray, List.set_cons_zero, List.set_cons_succ]
      refine ors_pure (v := ?_) (by kernel_rfl) ?_ ?_
      rotate_left
      · intro w' hv; clear hv; go_simp; try with_reducible rfl
      try simp only [Act.put, List.setIfInBounds_toArray, List.set_cons_zero, List.set_cons_succ]
      refine ors_pure (v := ?_) (by kernel_rfl) ?_ ?_
      rotate_left
      · intro w' hv; clear hv; go_simp; try with_reducible rfl
      try simp only [Act.put, List.setIfInBounds_toArray, List.set_cons_zero, List.set_cons_succ]
      refine ors_pure (v := ?_) (by kernel_rfl) ?_ ?_
      rotate_left
      · intro w' hv; have c0 := HC0.out w' hv; clear hv; go_simp; try with_reducible rfl
      try simp only [Act.put, List.setIfInBounds_toArray, List.set_cons_zero, List.set_cons_succ]
      refine ors_pure (v := ?_) (by kernel_rfl) ?_ ?_
      rotate_left
      · intro w' hv; clear hv; go_simp; try with_reducible rfl
      try simp only [Act.put, List.setIfInBounds_toArray, List.set_cons_zero, List.set_cons_succ]
      refine ors_pure (v := ?_) (by kernel_rfl) ?_ ?_
      rotate_left
      · intro w' hv; clear hv; go_simp; try with_reducible rfl
      try simp only [Act.put, List.setIfInBounds_toArray, List.set_cons_zero, List.set_cons_succ]
      refine ors_pure (v := ?_) (by kernel_rfl) ?_ ?_
      rotate_left
      · intro w' hv; clear hv; go_simp; try with_reducible rfl
      try simp only [Act.put, List.setIfInBounds_toArray, List.set_cons_zero, List.set_cons_succ]
      refine ors_pure (v := ?_) (by kernel_rfl) ?_ ?_
      rotate_left
      · intro w' hv; clear hv; go_simp; try with_reducible rfl
      try simp only [Act.put, List.setIfInBounds_toArray, List.set_cons_zero, List.set_cons_succ]
      refine ors_pure (v := ?_) (by kernel_rfl) ?_ ?_
      rotate_left
      · intro w' hv; have c1 := HC1.out w' hv; clear hv; go_simp; try with_reducible rfl
      try simp only [Act.put, List.setIfInBounds_toArray, List.set_cons_zero, List.set_cons_succ]
      refine ors_pure (v := ?_) (by kernel_rfl) ?_ ?_
      rotate_left
      · intro w' hv; clear hv; go_simp; try with_reducible rfl
      try simp only [Act.put, List.setIfInBounds_toArray, List.set_cons_zero, List.set_cons_succ]
      refine ors_pure (v := ?_) (by kernel_rfl) ?_ ?_
      rotate_left
      · intro w' hv; clear hv; go_simp; try with_reducible rfl
      try simp only [Act.put, List.setIfInBounds_toArray, List.set_cons_zero, List.set_cons_succ]
      refine ors_pure (v := ?_) (by kernel_rfl) ?_ ?_
      rotate_left
      · intro w' hv; clear hv; go_simp; try with_reducible rfl
      try simp only [Act.put, List.setIfInBounds_toArray, List.set_cons_zero, List.set_cons_succ]
      refine ors_pure (v := ?_) (by kernel_rfl) ?_ ?_
      rotate_left
      · intro w' hv; clear hv; go_simp; try with_reducible rfl
      try simp only [Act.put, List.setIfInBounds_toArray, List.set_cons_zero, List.set_cons_succ]
      refine ors_pure (by kernel_rfl) (fun w' hv => load_su 31 (.tmp 25) rfl ⟨(ad.add (j * 35)).block, (ad.add (j * 35)).off + 2, none⟩ rfl elSum.2.1 szSum s (HCU.out _ hv)) ?_
      try simp only [Act.put, List.setIfInBounds_toArray, List.set_cons_zero, List.set_cons_succ]
      refine ors_pure (v := ?_) (by kernel_rfl) ?_ ?_
      rotate_left
      · intro w' hv; clear hv; go_simp; try with_reducible rfl
      try simp only [Act.put, List.setIfInBounds_toArray, List.set_cons_zero, List.set_cons_succ]
      refine ors_pure (v := ?_) (by kernel_rfl) ?_ ?_
      rotate_left
      · intro w' hv; clear hv; go_simp; try with_reducible rfl
      try simp only [Act.put, List.setIfInBounds_toArray, List.set_cons_zero, List.set_cons_succ]
      refine ors_pure (v := ?_) (by kernel_rfl) ?_ ?_
      rotate_left
      · intro w' hv; clear hv; go_simp; try with_reducible rfl
      try simp only [Act.put, List.setIfInBounds_toArray, List.set_cons_zero, List.set_cons_succ]
      refine ors_pure (v := ?_) (by kernel_rfl) ?_ ?_
      rotate_left
      · intro w' hv; clear hv; go_simp; try with_reducible rfl
      try simp only [Act.put, List.setIfInBounds_toArray, List.set_cons_zero, List.set_cons_succ]
      refine ors_pure (v := ?_) (by kernel_rfl) ?_ ?_
      rotate_left
      · intro w' hv; have c34 := HC34.out w' hv; clear hv; go_simp; try with_reducible rfl
      try simp only [Act.put, List.setIfInBounds_toArray, List.set_cons_zero, List.set_cons_succ]
      refine ors_step (by kernel_rfl) (fun K hK => ?_)
      go_wp2_with fail
      refine Calls.mono (HNM.out wd HB2.out) ?_
      rintro e w3 ⟨⟨vn, rfl, hou⟩, hb⟩
      have HST : Hid (Below w.heap.size wd w3) := Lib.hid (hb.mono HB2.out.size)
      have HROW3 := Lib.hid (HROW2.out.keep hb)
      have HLN3 := Lib.hid (HLN2.out.keep hb)
      have HB3 := Lib.hid (HB2.out.trans HST.out)
      have HOU := Lib.hid (hou.less HB2.out.size)
      obtain ⟨q3, c3, hv3, _, _, _⟩ := hou.us
      subst hv3
      clear hb hou HROW2 HLN2 HB2 HNM
      refine hK _ _ ⟨HST.out, ?_⟩
      clear hK
      try simp only [Act.put, List.setIfInBounds_toArray, List.set_cons_zero, List.set_cons_succ]
      refine ors_pure (by kernel_rfl) (fun w' hv => build_val 102 _ rfl (encL (x, d, s, .slice q3 N.length c3, N)).toArray [(0, .string x), (1, .bool d), (2, .agg (encU s).toArray), (3, .slice q3 N.length c3)] (by kernel_rfl) (built_rl x d s q3 N.length c3 N)) ?_
      try simp only [Act.put, List.setIfInBounds_toArray, List.set_cons_zero, List.set_cons_succ]
      refine ors_step (by kernel_rfl) (fun K hK => wp_one_ln 50 102 elRl (.tmp 33) rfl (x, d, s, .slice q3 N.length c3, N) rfl (hK _ _ ⟨HST.out.alloc (Nat.le_trans HB3.out.size (Nat.le_refl _)) _, ?_⟩))
      try simp only [Act.put, List.setIfInBounds_toArray, List.set_cons_zero, List.set_cons_succ]
      have HA1 : Hid (Below w3.heap.size w3 (w3.alloc (.cells (encL (x, d, s, .slice q3 N.length c3, N)).toArray 102))) := Lib.hid ((Below.refl _ _).alloc (Nat.le_refl _) _)
      have HH1 : Hid (Has (w3.alloc (.cells (encL (x, d, s, .slice q3 N.length c3, N)).toArray 102)) w3.heap.size 102 (encL (x, d, s, .slice q3 N.length c3, N))) := Lib.hid (Has.made' _ _ _ _ rfl)
      generalize w3.alloc (.cells (encL (x, d, s, .slice q3 N.length c3, N)).toArray 102) = w4 at *
      have HROW4 := Lib.hid (HROW3.out.keep HA1.out)
      have HLN4 := Lib.hid (HLN3.out.keep HA1.out)
      have HOU4 := Lib.hid (HOU.out.keep HA1.out)
      have HB4 := Lib.hid (HB3.out.trans (HA1.out.mono HB3.out.size))
      have HST4 := Lib.hid (HST.out.trans (HA1.out.mono HB3.out.size))
      have HUS4 := Lib.hid HOU4.out.us
      clear HROW3 HLN3 HOU HST HB3 HA1
      generalize w3.heap.size = b3 at *
      have HLEN : Hid (R.length + 1 ≤ 2000000) := Lib.hid (by have := HRL.out; omega)
      refine ors_step (by kernel_rfl) (fun K hK => wp_append_ln 50 102 elRl (.tmp 11) (.tmp 34) rfl w.heap.size _ R rfl HROW4.out (some ⟨b3, 0, none⟩) [(x, d, s, .slice q3 N.length c3, N)] 1 1 (b3 + 1) rfl rfl (fun h => by cases h) (HH1.out.ln (Nat.lt_succ_self b3)) (ln_ones (p := (x, d, s, .slice q3 N.length c3, N)) HUS4.out) HLEN.out HB4.out.size (fun v9 w9 h1 h2 => ?_))
      have HROW9 := Lib.hid h1
      have HLN9 := Lib.hid ((LnO.snoc (p := (x, d, s, .slice q3 N.length c3, N)) HLN4.out HOU4.out).grown HROW4.out (by decide) h2)
      have HG9 : Hid (Below w.heap.size w4 w9) := Lib.hid ((Below.refl w.heap.size w4).grown h2 HB4.out.size (fun k hk => HROW4.out.base k hk))
      clear h1 h2
      refine hK _ _ ⟨HST4.out.trans HG9.out, ?_⟩
      clear hK
      try simp only [Act.put, List.setIfInBounds_toArray, List.set_cons_zero, List.set_cons_succ]
      refine ors_pure (v := ?_) (by kernel_rfl) ?_ ?_
      rotate_left
      · intro w' hv; clear hv; go_simp; try with_reducible rfl
      try simp only [Act.put, List.setIfInBounds_toArray, List.set_cons_zero, List.set_cons_succ]
      refine ors_nil ?_
      go_wp2_with fail
      go_roundw
      case rel => exact ⟨j + 1, R ++ [(x, d, s, .slice q3 N.length c3, N)], by omega, by rw [List.length_append, HRL.out]; rfl, by go_num, HROW9.out, HLN9.out, by rw [List.map_append, HKEY.out, HTK.out]; rfl, HB4.out.trans HG9.out⟩
      case measure => simp [intOf]; omega
    · have hjl : j = L.length := by omega
      subst hjl
      have kk : ¬ ((L.length : Int) < (L.length : Int)) := by omega
      have hk := HKEY.out
      rw [List.take_length] at hk
      have HK := Lib.hid hk
      clear hk
      go_wp2_with fail
      go_ret
      exact ⟨⟨_, rfl, R, HROW.out.ln, HLN.out, HK.out⟩, HB.out⟩
end Go.Proofs.YtmjonlffhhehjaaGreatDoor
/- Contract: the document's own Same (of tplz's XVr). Condition: at most a million sums. -/
namespace Go.Proofs.YtmjonlffhhehjaaGreatDoor
open Go.RowKit
set_option maxHeartbeats 8000000 in
set_option maxRecDepth 100000 in
theorem rsame_any (A B : List Su) (qa qb : Option Addr) (ca cb : Nat) (hA : A.length ≤ 1000000) (w : World) (ha : Sees w w.heap.size qa (rowU A)) (hb : Sees w w.heap.size qb (rowU B)) :
    Calls Tryz.prog 46 #[.slice qa A.length ca, .slice qb B.length cb] w fun e w' => e = .returned (.bool (decide (A = B))) ∧ Below w.heap.size w w' := by
  by_cases hl : A.length = B.length
  · have HSA := Lib.hid ha
    have HSB := Lib.hid hb
    have HLL := Lib.hid hl
    clear ha hb
    rw [← hl]
    generalize hn : A.length = n at *
    have HN := Lib.hid hn
    clear hn hl
    go_enter Tryz.func46, Tryz.ntmps46
    go_wp2_with fail
    go_loopw [5] (fun v wr => ∃ i : Nat, i ≤ n ∧ v = .int .i64 i ∧ (∀ k (h1 : k < A.length) (h2 : k < B.length), k < i → A[k] = B[k]) ∧ Below w.heap.size w wr) (fun v _ => n - (intOf v).toNat)
    case atStart => exact ⟨0, by omega, rfl, fun k _ _ h => by omega, Below.refl _ _⟩
    case round =>
      rename_i wr
      obtain ⟨i, hi, rfl, hall, hB⟩ := hrel
      have HALL := Lib.hid hall
      have HB := Lib.hid hB
      clear hall hB
      by_cases hlt : i < n
      · have hiA : i < A.length := by rw [HN.out]; exact hlt
        have hiB : i < B.length := by rw [← HLL.out]; exact hlt
        obtain ⟨a, rfl, _, hc⟩ := Ss.el HSA.out hiA
        obtain ⟨b, rfl, _, hc2⟩ := Ss.el HSB.out hiB
        have HNEW : Hid (A[i] = B[i] → ∀ k (h1 : k < A.length) (h2 : k < B.length), k < i + 1 → A[k] = B[k]) := Lib.hid (fun h k h1 h2 hk => by
          by_cases e : k = i
          · subst e; exact h
          · exact HALL.out k h1 h2 (by omega))
        have HBAD : Hid (A[i] ≠ B[i] → decide (A = B) = false) := Lib.hid (fun h => decide_eq_false fun e => h (by subst e; rfl))
        generalize A[i] = x at *
        generalize B[i] = y at *
        have HC := Lib.hid hc
        have HC2 := Lib.hid hc2
        have k1 : (i : Int) < (n : Int) := by omega
        clear hc hc2
        go_wp2_with fail
        refine wp_region_org [(0, true), (1, true), (2, true), (3, true), (4, true), (5, true), (6, true), (7, true), (8, true)] (by kernel_rfl) (by kernel_rfl) (by kernel_rfl) ?_
        replace HB := Lib.hid HB.out.drew
        generalize wr.drew = wd at *
        simp only [pickOrs, List.getElem?_cons_zero, List.getElem?_cons_succ]
        refine org_pure (v := ?_) (by kernel_rfl) ?_ ?_
        rotate_left
        · intro w' hv; clear hv; go_simp; try with_reducible rfl
        try simp only [Act.put, List.setIfInBounds_toArray, List.set_cons_zero, List.set_cons_succ]
        refine org_pure (v := ?_) (by kernel_rfl) ?_ ?_
        rotate_left
        · intro w' hv; clear hv; go_simp; try with_reducible rfl
        try simp only [Act.put, List.setIfInBounds_toArray, List.set_cons_zero, List.set_cons_succ]
        refine org_pure (v := ?_) (by kernel_rfl) ?_ ?_
        rotate_left
        · intro w' hv; clear hv; go_simp; try with_reducible rfl
        try simp only [Act.put, List.setIfInBounds_toArray, List.set_cons_zero, List.set_cons_succ]
        refine org_pure (by kernel_rfl) (fun w' hv => load_su 72 (.tmp 19) rfl _ rfl elRef.2.1 szRef x ((fun w' hv => HC.out w' (HB.out.trans (Below.mono hv HB.out.size))) w' hv)) ?_
        try simp only [Act.put, List.setIfInBounds_toArray, List.set_cons_zero, List.set_cons_succ]
        refine org_pure (v := ?_) (by kernel_rfl) ?_ ?_
        rotate_left
        · intro w' hv; clear hv; go_simp; try with_reducible rfl
        try simp only [Act.put, List.setIfInBounds_toArray, List.set_cons_zero, List.set_cons_succ]
        refine org_pure (v := ?_) (by kernel_rfl) ?_ ?_
        rotate_left
        · intro w' hv; clear hv; go_simp; try with_reducible rfl
        try simp only [Act.put, List.setIfInBounds_toArray, List.set_cons_zero, List.set_cons_succ]
        refine org_pure (v := ?_) (by kernel_rfl) ?_ ?_
        rotate_left
        · intro w' hv; clear hv; go_simp; try with_reducible rfl
        try simp only [Act.put, List.setIfInBounds_toArray, List.set_cons_zero, List.set_cons_succ]
        refine org_pure (by kernel_rfl) (fun w' hv => load_su 72 (.tmp 23) rfl _ rfl elRef.2.1 szRef y ((fun w' hv => HC2.out w' (HB.out.trans (Below.mono hv HB.out.size))) w' hv)) ?_
        try simp only [Act.put, List.setIfInBounds_toArray, List.set_cons_zero, List.set_cons_succ]
        refine org_pure (by kernel_rfl) (fun w' hv => neq_su 72 (.tmp 20) (.tmp 24) _ rfl x y rfl rfl elRef.2.1 gdRef) ?_
        try simp only [Act.put, List.setIfInBounds_toArray, List.set_cons_zero, List.set_cons_succ]
        refine org_nil ?_
        by_cases hxy : x = y
        · have HN2 := Lib.hid (HNEW.out hxy)
          rw [decide_eq_true hxy]
          clear HNEW HBAD hxy
          go_wp2_with fail
          go_roundw
          case rel => exact ⟨i + 1, by omega, by go_num, HN2.out, HB.out⟩
          case measure => simp [intOf]; omega
        · have HN2 := Lib.hid (HBAD.out hxy)
          rw [decide_eq_false hxy]
          clear HNEW HBAD hxy
          go_wp2_with fail
          go_ret
          exact ⟨congrArg (fun b => Ending.returned (.bool b)) HN2.out.symm, HB.out⟩
      · have hil : i = n := by omega
        subst hil
        have HR : Hid (decide (A = B) = true) := Lib.hid (decide_eq_true (List.ext_getElem (by rw [HN.out]; exact HLL.out) fun k h1 h2 => HALL.out k h1 h2 (by rw [← HN.out]; exact h1)))
        have k1 : ¬ (i : Int) < (i : Int) := by omega
        go_wp2_with fail
        go_ret
        exact ⟨congrArg (fun b => Ending.returned (.bool b)) HR.out.symm, HB.out⟩
  · have k1 : ¬ (A.length : Int) = (B.length : Int) := by omega
    have HR : Hid (decide (A = B) = false) := Lib.hid (decide_eq_false fun e => hl (by rw [e]))
    clear ha hb hl
    generalize A.length = n at *
    generalize B.length = m at *
    go_enter Tryz.func46, Tryz.ntmps46
    go_wp2_with fail
    go_ret
    exact ⟨congrArg (fun b => Ending.returned (.bool b)) HR.out.symm, Below.refl _ _⟩
end Go.Proofs.YtmjonlffhhehjaaGreatDoor
