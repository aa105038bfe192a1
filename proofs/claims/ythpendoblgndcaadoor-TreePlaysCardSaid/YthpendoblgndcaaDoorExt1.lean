/- Contracts: package tree's without, Remove. Conditions: at most 900 entries, all bytes together at most 2^61, paths shorter than 2^61 bytes. -/
import Derived.Test.YthpendoblgndcaaDoorBase5
import Derived.Test.YthpendoblgndcaaDoorBase6
namespace Go.Proofs.YthpendoblgndcaaDoor
open Go.RowKit Go.Sort
set_option maxHeartbeats 8000000 in
set_option maxRecDepth 100000 in
theorem twithout_any (C : List Ent) (q : Option Addr) (c : Nat) (i : Nat) (hi : i < C.length) (hm : C.length ≤ 900) (hq : q = none → c = 0) (w : World) (hs : Sees w w.heap.size q (rowC C)) (hE : Ents w C) :
    Calls Tryd.prog 41 #[.agg #[.slice q C.length c], .int .i64 (i : Int)] w fun e w' => (∃ v, e = .returned (.agg #[v]) ∧ OwnT w' w.heap.size v (C.take i ++ C.drop (i + 1))) ∧ Below w.heap.size w w' := by
  have HCL := Lib.hid (fun w1 (h : Below w.heap.size w w1) => tclone_any C q c (by omega) w1 hq ((hs.keep h).more h.size) (hE.keep h))
  have HDL := Lib.hid (fun v w1 base (hO : OwnT w1 base v C) => tdel_any C i v base hi (by omega) w1 hO (one_row hE))
  have HB : Hid (Below w.heap.size w ((w.alloc (.cells #[.slice q C.length c] 25)).alloc (.cells #[.slice none 0 0] 25))) := Lib.hid (((Below.refl _ _).alloc (Nat.le_refl _) _).alloc (by simp) _)
  have HY : Hid (Has ((w.alloc (.cells #[.slice q C.length c] 25)).alloc (.cells #[.slice none 0 0] 25)) (w.heap.size + 1) 25 [.slice none 0 0]) := Lib.hid (Has.made1 w _ _ _ _ rfl)
  have kw : IntKind.i64.wrap ((i : Int) + 1) = (i : Int) + 1 := by rw [IntWalk.i64_in _ (by omega)]
  have hle : w.heap.size ≤ w.heap.size + 1 := by omega
  clear hs hE hq
  go_enter Tryd.func41, Tryd.ntmps41
  go_wp2_with fail
  refine (HCL.out _ HB.out).mono ?_
  rintro e w2 ⟨⟨v2, rfl, hO2⟩, hb⟩
  have HO2 := Lib.hid hO2
  have HZ2 := Lib.hid (HB.out.size)
  have HYL := Lib.hid HY.out.lt
  replace HB := Lib.hid (HB.out.trans (hb.mono HB.out.size))
  replace HY := Lib.hid (HY.out.keep hb HY.out.lt)
  clear hb hO2
  go_wp2_with fail
  refine (HDL.out _ _ _ HO2.out).mono ?_
  rintro e w3 ⟨⟨v3, rfl, hO3⟩, hb⟩
  replace HY := Lib.hid (HY.out.keep hb HYL.out)
  replace HB := Lib.hid (HB.out.trans (hb.mono HZ2.out))
  obtain ⟨x5, m5, k5, rfl⟩ := own_slice' hO3
  have HO3 := Lib.hid hO3
  clear hb hO3 HO2
  have cy := HY.out.cellv (i := 0) (v := .slice none 0 0) rfl
  have fy := HY.out.free 0
  go_wp2_with fail
  have cz : (w3.setCell ⟨w.heap.size + 1, 0, none⟩ (.slice x5 m5 k5)).cell? ⟨w.heap.size + 1, 0, none⟩ = some (.slice x5 m5 k5) := World.cell?_setCell_same' _ _ _ (by rw [cy]; rfl)
  refine bodyPost_ret (by simp [results, Tryd.results41, go_sem, cz]; try rfl) rfl ?_
  exact ⟨⟨_, rfl, (HO3.out.set (p := ⟨w.heap.size + 1, 0, none⟩) HYL.out _).less HZ2.out⟩, HB.out.setCell (p := ⟨w.heap.size + 1, 0, none⟩) hle _⟩
def removeP (C : List Ent) (p : ByteArray) : List Ent × Int :=
  if (findP C p).2 ≠ 0 then (C, (findP C p).2) else if 0 < (kidsP C p.data.toList).length then (C, 8) else (C.take (findP C p).1 ++ C.drop ((findP C p).1 + 1), 0)
theorem findP_lt {C : List Ent} {p : ByteArray} (h : (findP C p).2 = 0) : (findP C p).1 < C.length := by
  unfold findP at h ⊢
  split at h
  · exact absurd h (by assumption)
  · rename_i h0
    rw [if_neg h0]
    split at h
    · rename_i h1
      rw [if_pos h1]
      exact hasT_lt h1
    · cases h
set_option maxHeartbeats 8000000 in
set_option maxRecDepth 100000 in
theorem tremove_any (C : List Ent) (q : Option Addr) (c : Nat) (p : ByteArray) (hm : C.length ≤ 900) (hcap : C.length ≤ c) (hq : q = none → c = 0) (hb : bytesT C ≤ 2305843009213693952) (hn : ∀ e ∈ C, e.1.size < 9223372036854775808) (hp : p.size < 2305843009213693952)
    (w : World) (hs : Sees w w.heap.size q (rowC C)) (hE : Ents w C) :
    Calls Tryd.prog 13 #[.agg #[.slice q C.length c], .string p] w fun e w' => (∃ v, e = .returned (.tuple #[.agg #[v], .int .i64 (removeP C p).2]) ∧ ResT w' w.heap.size (.slice q C.length c) C v (removeP C p).1) ∧ Below w.heap.size w w' := by
  have HFI := Lib.hid (fun w1 (h : Below w.heap.size w w1) => tfind_any C q c p (by omega) hcap (by omega) hn (by omega) w1 ((hs.keep h).more h.size) (hE.keep h))
  have HKI := Lib.hid (fun w1 (h : Below w.heap.size w w1) => tkids_any C q c p (by omega) hcap (by omega) hn w1 ((hs.keep h).more h.size) (hE.keep h))
  have HWO := Lib.hid (fun i (hi : i < C.length) w1 (h : Below w.heap.size w w1) => twithout_any C q c i hi hm hq w1 ((hs.keep h).more h.size) (hE.keep h))
  have HB : Hid (Below w.heap.size w ((w.alloc (.cells #[.slice q C.length c] 25)).alloc (.cells #[.slice none 0 0] 25))) := Lib.hid (((Below.refl _ _).alloc (Nat.le_refl _) _).alloc (by simp) _)
  have HX : Hid (Has ((w.alloc (.cells #[.slice q C.length c] 25)).alloc (.cells #[.slice none 0 0] 25)) w.heap.size 25 [.slice q C.length c]) := Lib.hid ((Has.made w _ _).alloc _)
  have HY : Hid (Has ((w.alloc (.cells #[.slice q C.length c] 25)).alloc (.cells #[.slice none 0 0] 25)) (w.heap.size + 1) 25 [.slice none 0 0]) := Lib.hid (Has.made1 w _ _ _ _ rfl)
  obtain ⟨V, hV⟩ : ∃ V, removeP C p = V := ⟨_, rfl⟩
  rw [hV]
  unfold removeP at hV
  have HV := Lib.hid hV
  have HFL : Hid ((findP C p).2 = 0 → (findP C p).1 < C.length) := Lib.hid findP_lt
  generalize findP C p = FP at *
  obtain ⟨FI, FE⟩ := FP
  simp only [] at HV HFL
  generalize kidsP C p.data.toList = KD at *
  have hle : w.heap.size ≤ w.heap.size + 1 := by omega
  clear hs hE hn hq hV
  go_enter Tryd.func13, Tryd.ntmps13
  have cx := HX.out.cellv (i := 0) (v := .slice q C.length c) rfl
  go_wp2_with fail
  refine (HFI.out _ HB.out).mono ?_
  rintro e w1 ⟨rfl, hb1⟩
  replace HB := Lib.hid (HB.out.trans (hb1.mono HB.out.size))
  replace HX := Lib.hid (HX.out.keep hb1 HX.out.lt)
  replace HY := Lib.hid (HY.out.keep hb1 HY.out.lt)
  clear hb1 cx
  by_cases hF : FE = 0
  · subst hF
    have hlt := HFL.out rfl
    have cx := HX.out.cellv (i := 0) (v := .slice q C.length c) rfl
    go_wp2_with fail
    refine (HKI.out _ HB.out).mono ?_
    rintro e w2 ⟨⟨v2, rfl, qk, ck, rfl, _, _⟩, hb1⟩
    replace HB := Lib.hid (HB.out.trans (hb1.mono HB.out.size))
    replace HX := Lib.hid (HX.out.keep hb1 HX.out.lt)
    replace HY := Lib.hid (HY.out.keep hb1 HY.out.lt)
    clear hb1 cx
    by_cases hK : 0 < KD.length
    · have kk : (0 : Int) < (KD.length : Int) := by omega
      have cx := HX.out.cellv (i := 0) (v := .slice q C.length c) rfl
      have cy := HY.out.cellv (i := 0) (v := .slice none 0 0) rfl
      have fy := HY.out.free 0
      have hv : V = (C, 8) := by rw [← HV.out]; simp [hK]
      subst hv
      go_wp2_with fail
      have cz : (w2.setCell ⟨w.heap.size + 1, 0, none⟩ (.slice q C.length c)).cell? ⟨w.heap.size + 1, 0, none⟩ = some (.slice q C.length c) := World.cell?_setCell_same' _ _ _ (by rw [cy]; rfl)
      refine bodyPost_ret (by simp [results, Tryd.results13, go_sem, cz]; try rfl) rfl ?_
      have hbz := HB.out.setCell (p := ⟨w.heap.size + 1, 0, none⟩) hle (.slice q C.length c)
      exact ⟨⟨.slice q C.length c, rfl, ResT.old _ _ _ _⟩, hbz⟩
    · have kk : ((0 : Int) < (KD.length : Int)) = False := eq_false (by omega)
      have hv : V = (C.take FI ++ C.drop (FI + 1), 0) := by rw [← HV.out]; simp [hK]
      subst hv
      have cx := HX.out.cellv (i := 0) (v := .slice q C.length c) rfl
      go_wp2_with fail
      refine (HWO.out FI hlt _ HB.out).mono ?_
      rintro e w3 ⟨⟨v3, rfl, hO3⟩, hb1⟩
      have HYL := Lib.hid HY.out.lt
      have HZ2 := Lib.hid HB.out.size
      replace HB := Lib.hid (HB.out.trans (hb1.mono HB.out.size))
      replace HX := Lib.hid (HX.out.keep hb1 HX.out.lt)
      replace HY := Lib.hid (HY.out.keep hb1 HY.out.lt)
      obtain ⟨x5, m5, k5, rfl⟩ := own_slice' hO3
      have HO3 := Lib.hid hO3
      clear hb1 hO3 cx
      have cy := HY.out.cellv (i := 0) (v := .slice none 0 0) rfl
      have fy := HY.out.free 0
      go_wp2_with fail
      have cz : (w3.setCell ⟨w.heap.size + 1, 0, none⟩ (.slice x5 m5 k5)).cell? ⟨w.heap.size + 1, 0, none⟩ = some (.slice x5 m5 k5) := World.cell?_setCell_same' _ _ _ (by rw [cy]; rfl)
      refine bodyPost_ret (by simp [results, Tryd.results13, go_sem, cz]; try rfl) rfl ?_
      exact ⟨⟨_, rfl, .inr ((HO3.out.set (p := ⟨w.heap.size + 1, 0, none⟩) HYL.out _).less HZ2.out), fun y hy => .inl (by
        rcases List.mem_append.1 hy with h | h
        · exact List.mem_of_mem_take h
        · exact List.mem_of_mem_drop h)⟩, HB.out.setCell (p := ⟨w.heap.size + 1, 0, none⟩) hle _⟩
  · have kA : (FE = 0) = False := eq_false hF
    have kAb : (FE == 0) = false := by simpa using hF
    have kAn : (FE != 0) = true := by simpa using hF
    have cx := HX.out.cellv (i := 0) (v := .slice q C.length c) rfl
    have cy := HY.out.cellv (i := 0) (v := .slice none 0 0) rfl
    have fy := HY.out.free 0
    have hv : V = (C, FE) := by rw [← HV.out, if_pos hF]
    subst hv
    go_wp2_with fail
    have cz : (w1.setCell ⟨w.heap.size + 1, 0, none⟩ (.slice q C.length c)).cell? ⟨w.heap.size + 1, 0, none⟩ = some (.slice q C.length c) := World.cell?_setCell_same' _ _ _ (by rw [cy]; rfl)
    refine bodyPost_ret (by simp [results, Tryd.results13, go_sem, cz]; try rfl) rfl ?_
    have hbz := HB.out.setCell (p := ⟨w.heap.size + 1, 0, none⟩) hle (.slice q C.length c)
    exact ⟨⟨.slice q C.length c, rfl, ResT.old _ _ _ _⟩, hbz⟩
end Go.Proofs.YthpendoblgndcaaDoor
/- Contract: package tree's Find. Conditions: at most 1000 entries, all bytes together at most 2^62, paths shorter than 2^61 bytes. -/
namespace Go.Proofs.YthpendoblgndcaaDoor
open Go.RowKit
/-- What Find answers: an entry, its bytes in a row of the call's own. -/
def FindR (w : World) (base : Nat) (C : List Ent) (p : ByteArray) (e : Ent) : Prop :=
  OwnB w base e ∧ (((findP C p).2 = 0 ∧ ∃ h : (findP C p).1 < C.length, e.1 = C[(findP C p).1].1 ∧ e.2.1 = C[(findP C p).1].2.1 ∧ e.by = C[(findP C p).1].by) ∨ ((findP C p).2 ≠ 0 ∧ e = (⟨#[]⟩, false, .slice none 0 0, [])))
set_option maxHeartbeats 8000000 in
set_option maxRecDepth 100000 in
theorem tFind_any (C : List Ent) (q : Option Addr) (c : Nat) (p : ByteArray) (hm : C.length ≤ 900) (hcap : C.length ≤ c) (hb : bytesT C ≤ 4611686018427387904) (hn : ∀ e ∈ C, e.1.size < 9223372036854775808) (hp : p.size < 2305843009213693952)
    (hlb : ∀ e ∈ C, goodP C = true → e.by.length ≤ 140737488355328)
    (w : World) (hs : Sees w w.heap.size q (rowC C)) (hE : Ents w C) :
    Calls Tryd.prog 12 #[.agg #[.slice q C.length c], .string p] w fun e w' => (∃ r : Ent, e = .returned (.tuple #[entV r, .int .i64 (findP C p).2]) ∧ FindR w' w.heap.size C p r) ∧ Below w.heap.size w w' := by
  have HFI := Lib.hid (fun w1 (h : Below w.heap.size w w1) => tfind_any C q c p (by omega) hcap (by omega) hn (by omega) w1 ((hs.keep h).more h.size) (hE.keep h))
  have HS := Lib.hid hs
  have HE := Lib.hid hE
  have HB : Hid (Below w.heap.size w ((w.alloc (.cells #[.slice q C.length c] 25)).alloc (.cells #[.string ⟨#[]⟩, .bool false, .slice none 0 0] 32))) := Lib.hid (((Below.refl _ _).alloc (Nat.le_refl _) _).alloc (by simp) _)
  have HX : Hid (Has ((w.alloc (.cells #[.slice q C.length c] 25)).alloc (.cells #[.string ⟨#[]⟩, .bool false, .slice none 0 0] 32)) w.heap.size 25 [.slice q C.length c]) := Lib.hid ((Has.made w _ _).alloc _)
  have HY : Hid (Has ((w.alloc (.cells #[.slice q C.length c] 25)).alloc (.cells #[.string ⟨#[]⟩, .bool false, .slice none 0 0] 32)) (w.heap.size + 1) 32 [.string ⟨#[]⟩, .bool false, .slice none 0 0]) := Lib.hid (Has.made1 w _ _ _ _ rfl)
  have HFL : Hid ((findP C p).2 = 0 → (findP C p).1 < C.length ∧ goodP C = true) := Lib.hid (fun h => by
    unfold findP at h ⊢
    by_cases h0 : askT C [p] ≠ 0
    · rw [if_pos h0] at h; exact absurd h h0
    · rw [if_neg h0] at h ⊢
      cases h1 : hasT C p.data.toList with
      | false => rw [h1] at h; simp at h
      | true =>
        rw [if_pos rfl]
        exact ⟨hasT_lt h1, (askT_good (by simpa using h0)).1⟩)
  have HFR : Hid (∀ w' base e, OwnB w' base e → (((findP C p).2 = 0 ∧ ∃ h : (findP C p).1 < C.length, e.1 = C[(findP C p).1].1 ∧ e.2.1 = C[(findP C p).1].2.1 ∧ e.by = C[(findP C p).1].by) ∨ ((findP C p).2 ≠ 0 ∧ e = (⟨#[]⟩, false, .slice none 0 0, []))) → FindR w' base C p e) := Lib.hid (fun _ _ _ h1 h2 => ⟨h1, h2⟩)
  have HLB := Lib.hid hlb
  generalize FindR = FR at *
  generalize findP C p = FP at *
  obtain ⟨FI, FE⟩ := FP
  simp only [] at HFL HFR
  have hle : w.heap.size ≤ w.heap.size + 1 := by omega
  clear hs hE hn hlb
  go_enter Tryd.func12, Tryd.ntmps12
  have cx := HX.out.cellv (i := 0) (v := .slice q C.length c) rfl
  go_wp2_with fail
  refine (HFI.out _ HB.out).mono ?_
  rintro e w1 ⟨rfl, hb1⟩
  replace HB := Lib.hid (HB.out.trans (hb1.mono HB.out.size))
  replace HX := Lib.hid (HX.out.keep hb1 HX.out.lt)
  replace HY := Lib.hid (HY.out.keep hb1 HY.out.lt)
  clear hb1 cx
  have cx := HX.out.cellv (i := 0) (v := .slice q C.length c) rfl
  have cy0 := HY.out.cellv (i := 0) (v := .string ⟨#[]⟩) rfl
  have cy1 := HY.out.cellv (i := 1) (v := .bool false) rfl
  have cy2 := HY.out.cellv (i := 2) (v := .slice none 0 0) rfl
  have fy0 := HY.out.free 0
  have fy1 := HY.out.free 1
  have fy2 := HY.out.free 2
  by_cases hF : FE = 0
  · subst hF
    obtain ⟨hlt, hgd⟩ := HFL.out rfl
    obtain ⟨a, rfl, ha, hc⟩ := HS.out.ent hlt
    obtain ⟨c1, c2, c3⟩ := hc w1 HB.out
    have kk : (FI : Int) < (C.length : Int) := by omega
    obtain ⟨qb, cb, hv, hcb, hqb, hsb⟩ := HE.out C[FI] (List.getElem_mem hlt)
    have hbl := HLB.out C[FI] (List.getElem_mem hlt) hgd
    have HRR : Hid (∀ w' base e, OwnB w' base e → e.1 = C[FI].1 → e.2.1 = C[FI].2.1 → e.by = C[FI].by → FR w' base C p e) := Lib.hid (fun w' base e h h1 h2 h3 => HFR.out w' base e h (.inl ⟨rfl, hlt, h1, h2, h3⟩))
    obtain ⟨e, he⟩ : ∃ e, C[FI] = e := ⟨_, rfl⟩
    rw [he] at c1 c2 c3 hv hsb hbl HRR
    obtain ⟨x, d, bv, bb⟩ := e
    have hv' : bv = .slice qb (List.length bb) cb := hv
    subst hv'
    simp only [] at c1 c2 c3 HRR
    have HBC : Hid (∀ w1 (h : Below w.heap.size w w1), Calls Tryd.prog 40 #[.slice qb bb.length cb] w1 fun e w' => (∃ v, e = .returned v ∧ w'.ownsRow w1.heap.size 5 1 v bb.length (bb.map u8v)) ∧ Below w1.heap.size w1 w') := Lib.hid (fun w1 h => tbclone_any bb qb cb w1 ((hsb.keep h).more h.size) hqb hbl)
    have HYL := Lib.hid HY.out.lt
    have HZ := Lib.hid HB.out.size
    have HB2 : Hid (Below w.heap.size w (w1.alloc (.cells #[.string x, .bool d, .slice qb bb.length cb] 32))) := Lib.hid (HB.out.alloc HB.out.size _)
    have HT2 : Hid (Has (w1.alloc (.cells #[.string x, .bool d, .slice qb bb.length cb] 32)) w1.heap.size 32 [.string x, .bool d, .slice qb bb.length cb]) := Lib.hid (Has.made w1 _ _)
    have HY2 := Lib.hid (HY.out.alloc (.cells #[.string x, .bool d, .slice qb bb.length cb] 32))
    clear hc ha he hv hsb hcb hqb hbl
    go_wp2_with fail
    refine (HBC.out _ HB2.out).mono ?_
    rintro e w3 ⟨⟨v3, rfl, hO3⟩, hb3⟩
    have HT3 := HT2.out.keep hb3 HT2.out.lt
    have HY3 := HY2.out.keep hb3 HY2.out.lt
    have HB3 := Lib.hid (HB2.out.trans (hb3.mono HB2.out.size))
    obtain ⟨x5, m5, k5, rfl⟩ := own_slice' hO3
    have hszz : w1.heap.size < (w1.alloc (.cells #[.string x, .bool d, .slice qb bb.length cb] 32)).heap.size := by simp
    have hO3' : OwnB w3 (w1.alloc (.cells #[.string x, .bool d, .slice qb bb.length cb] 32)).heap.size (x, d, .slice x5 m5 k5, bb) := hO3
    generalize (w1.alloc (.cells #[.string x, .bool d, .slice qb bb.length cb] 32)).heap.size = BS at *
    have hne : w1.heap.size ≠ w.heap.size + 1 := by have := HYL.out; omega
    have HZB := HZ
    have HYB := HYL
    generalize w1.heap.size = BT at *
    have t0 := HT3.cellv (i := 0) (v := .string x) rfl
    have t1 := HT3.cellv (i := 1) (v := .bool d) rfl
    have t2 := HT3.cellv (i := 2) (v := .slice qb bb.length cb) rfl
    have f2 := HT3.free 2
    have HT4 := HT3.put 2 (.slice x5 m5 k5)
    have HY4 : Has (w3.setCell ⟨BT, 2, none⟩ (.slice x5 m5 k5)) (w.heap.size + 1) 32 [.string ⟨#[]⟩, .bool false, .slice none 0 0] := HY3.off (by show w.heap.size + 1 ≠ BT; omega) _
    have hbt : w.heap.size ≤ BT := HZB.out
    have hO4 := hO3'.set (g := BT) (o := 2) hszz (.slice x5 m5 k5)
    have HB4 := HB3.out.setCell (p := ⟨BT, 2, none⟩) hbt (.slice x5 m5 k5)
    have z0 := HT4.cellv (i := 0) (v := .string x) rfl
    have z1 := HT4.cellv (i := 1) (v := .bool d) rfl
    have z2 := HT4.cellv (i := 2) (v := .slice x5 m5 k5) rfl
    have y0 := HY4.cellv (i := 0) (v := .string ⟨#[]⟩) rfl
    have y1 := HY4.cellv (i := 1) (v := .bool false) rfl
    have y2 := HY4.cellv (i := 2) (v := .slice none 0 0) rfl
    have g0 := HY4.free 0
    have g1 := HY4.free 1
    have g2 := HY4.free 2
    have HB4' := Lib.hid HB4
    have HO4 := Lib.hid hO4
    have HY4' := Lib.hid HY4
    clear hb3 hO3 hO3' HT3 HY3 HT4 HY4 hO4 HB4 cx cy0 cy1 cy2 fy0 fy1 fy2 c1 c2 c3 HT2 HY2 HB2
    go_wp2_with fail
    have hyf := ((HY4'.out.put 0 (.string x)).put 1 (.bool d)).put 2 (.slice x5 m5 k5)
    have cz0 := hyf.cellv (i := 0) (v := .string x) rfl
    have cz1 := hyf.cellv (i := 1) (v := .bool d) rfl
    have cz2 := hyf.cellv (i := 2) (v := .slice x5 m5 k5) rfl
    refine bodyPost_ret (by simp [results, Tryd.results12, go_sem, cz0, cz1, cz2]; try rfl) rfl ?_
    have hlb : w.heap.size + 1 < BS := by have := HYB.out; omega
    exact ⟨⟨(x, d, .slice x5 m5 k5, bb), rfl, HRR.out _ _ _ (((((HO4.out.set (o := 0) hlb (.string x)).set (o := 1) hlb (.bool d)).set (o := 2) hlb (.slice x5 m5 k5))).less (by omega)) rfl rfl rfl⟩, ((HB4'.out.setCell (p := ⟨w.heap.size + 1, 0, none⟩) hle _).setCell (p := ⟨w.heap.size + 1, 1, none⟩) hle _).setCell (p := ⟨w.heap.size + 1, 2, none⟩) hle _⟩
  · have kA : (FE = 0) = False := eq_false hF
    have kAb : (FE == 0) = false := by simpa using hF
    have kAn : (FE != 0) = true := by simpa using hF
    have HY' := HY
    have HB' := HB
    clear cx cy0 cy1 cy2 fy0 fy1 fy2
    have cx := HX.out.cellv (i := 0) (v := .slice q C.length c) rfl
    have cy0 := HY.out.cellv (i := 0) (v := .string ⟨#[]⟩) rfl
    have cy1 := HY.out.cellv (i := 1) (v := .bool false) rfl
    have cy2 := HY.out.cellv (i := 2) (v := .slice none 0 0) rfl
    have fy0 := HY.out.free 0
    have fy1 := HY.out.free 1
    have fy2 := HY.out.free 2
    go_wp2_with fail
    have hyf := ((HY'.out.put 0 (.string ⟨#[]⟩)).put 1 (.bool false)).put 2 (.slice none 0 0)
    have cz0 := hyf.cellv (i := 0) (v := .string ⟨#[]⟩) rfl
    have cz1 := hyf.cellv (i := 1) (v := .bool false) rfl
    have cz2 := hyf.cellv (i := 2) (v := .slice none 0 0) rfl
    refine bodyPost_ret (by simp [results, Tryd.results12, go_sem, cz0, cz1, cz2]; try rfl) rfl ?_
    exact ⟨⟨(⟨#[]⟩, false, .slice none 0 0, []), rfl, HFR.out _ _ _ (World.ownsRow_nil _ _ _ _) (.inr ⟨hF, rfl⟩)⟩, ((HB'.out.setCell (p := ⟨w.heap.size + 1, 0, none⟩) hle _).setCell (p := ⟨w.heap.size + 1, 1, none⟩) hle _).setCell (p := ⟨w.heap.size + 1, 2, none⟩) hle _⟩
end Go.Proofs.YthpendoblgndcaaDoor
/- Plain laws: what is put in and taken out again leaves a tree as it was; a tree that may be stays one. No condition. -/
namespace Go.Proofs.YthpendoblgndcaaDoor
open Go.RowKit
theorem tw_stop {α : Type} (f : α → Bool) : ∀ (C : List α) (h : (C.takeWhile f).length < C.length), f (C[(C.takeWhile f).length]'h) = false
  | [], h => absurd h (by simp)
  | x :: C, h => by
    cases hx : f x with
    | false =>
      have e : ((x :: C).takeWhile f).length = 0 := by rw [List.takeWhile_cons, hx]; rfl
      simp only [e, List.getElem_cons_zero]
      exact hx
    | true =>
      have e : ((x :: C).takeWhile f).length = (C.takeWhile f).length + 1 := by rw [List.takeWhile_cons, hx]; rfl
      have h' : (C.takeWhile f).length < C.length := by rw [e] at h; simpa using h
      simp only [e, List.getElem_cons_succ]
      exact tw_stop f C h'
theorem take_lt {C : List Ent} {p : Tx} : ∀ e ∈ C.take (posT C p), cmpL e.pa p < 0 := fun e he => by
  have h : C.take (posT C p) = C.takeWhile fun e => decide (cmpL e.pa p < 0) := by
    unfold posT
    exact (List.prefix_iff_eq_take.1 (List.takeWhile_prefix _)).symm
  rw [h] at he
  exact of_decide_eq_true (List.all_eq_true.1 (List.all_takeWhile) e he)
theorem at_ge {C : List Ent} (hA : AscE C) {p : Tx} {j : Nat} (hj : j < C.length) (hp : posT C p ≤ j) : 0 ≤ cmpL C[j].pa p := by
  rcases Int.lt_or_le (cmpL C[j].pa p) 0 with h | h
  · have hl : posT C p < C.length := by omega
    have h1 := hA.up p (posT C p) j hl hj hp h
    have h2 := tw_stop (fun e : Ent => decide (cmpL e.pa p < 0)) C hl
    have h3 := of_decide_eq_false h2
    exact absurd h1 h3
  · exact h
/-- What stands behind the place is behind the path. -/
theorem drop_gt {C : List Ent} (hA : AscE C) (p : Tx) : ∀ e ∈ C.drop (if hasT C p = true then posT C p + 1 else posT C p), 0 < cmpL e.pa p := fun e he => by
  cases hh : hasT C p with
  | true =>
    rw [hh, if_pos rfl] at he
    obtain ⟨i, hi, rfl⟩ := List.getElem_of_mem he
    rw [List.length_drop] at hi
    rw [List.getElem_drop]
    have hl : posT C p < C.length := by omega
    have hz : cmpL C[posT C p].pa p = 0 := by
      unfold hasT at hh
      rw [List.getElem?_eq_getElem hl] at hh
      exact of_decide_eq_true hh
    have h1 := hA.lt hl (show posT C p + 1 + i < C.length by omega) (by omega)
    rw [cmpL_zero.1 hz] at h1
    rw [cmpL_neg] at h1
    omega
  | false =>
    rw [hh, if_neg (by simp)] at he
    obtain ⟨i, hi, rfl⟩ := List.getElem_of_mem he
    rw [List.length_drop] at hi
    rw [List.getElem_drop]
    have hg := at_ge hA (p := p) (show posT C p + i < C.length by omega) (by omega)
    rcases Int.lt_or_le 0 (cmpL C[posT C p + i].pa p) with h | h
    · exact h
    · exfalso
      have h0 : cmpL C[posT C p + i].pa p = 0 := by omega
      have hl : posT C p < C.length := by omega
      have h1 := at_ge hA (p := p) hl (Nat.le_refl _)
      have hne : cmpL C[posT C p].pa p ≠ 0 := fun k => by
        unfold hasT at hh
        rw [List.getElem?_eq_getElem hl] at hh
        simp [k] at hh
      have hle : cmpL C[posT C p].pa C[posT C p + i].pa ≤ 0 := by
        rcases Nat.eq_zero_or_pos i with rfl | hi0
        · simp only [Nat.add_zero]; rw [cmpL_self]; omega
        · exact Int.le_of_lt (hA.lt hl (by omega) (by omega))
      rw [cmpL_zero.1 h0] at hle
      omega
theorem putL_asc {C : List Ent} (hA : AscE C) (E : Ent) : AscE (putL C E) := by
  unfold putL
  refine List.pairwise_append.2 ⟨hA.take _, List.pairwise_cons.2 ⟨fun e he => ?_, hA.sublist (List.drop_sublist _ _)⟩, fun a ha b hb => ?_⟩
  · have := drop_gt hA E.pa e he
    rw [cmpL_neg]; omega
  · have h1 := take_lt a ha
    rcases List.mem_cons.1 hb with rfl | hb
    · exact h1
    · have h2 := drop_gt hA E.pa b hb
      refine cmpL_lt_le h1 ?_
      rw [cmpL_neg]; omega
theorem putL_keeps {C : List Ent} {E y : Ent} (hy : y ∈ C) (hne : y.pa ≠ E.pa) : y ∈ putL C E := by
  unfold putL
  obtain ⟨i, hi, rfl⟩ := List.getElem_of_mem hy
  rcases Nat.lt_or_ge i (posT C E.pa) with h | h
  · exact List.mem_append_left _ (List.mem_take_iff_getElem.2 ⟨i, by omega, rfl⟩)
  · refine List.mem_append_right _ (List.mem_cons_of_mem _ ?_)
    cases hh : hasT C E.pa with
    | true =>
      have hne' : i ≠ posT C E.pa := fun k => by
        subst k
        unfold hasT at hh
        rw [List.getElem?_eq_getElem hi] at hh
        exact hne (cmpL_zero.1 (of_decide_eq_true hh))
      rw [if_pos rfl]
      exact List.mem_drop_iff_getElem.2 ⟨i - (posT C E.pa + 1), by omega, by congr 1; omega⟩
    | false =>
      rw [if_neg (by simp)]
      exact List.mem_drop_iff_getElem.2 ⟨i - posT C E.pa, by omega, by congr 1; omega⟩
theorem putL_has (C : List Ent) (E : Ent) : E ∈ putL C E := List.mem_append_right _ (List.mem_cons_self ..)
theorem up_ne {p : Tx} (h : okPath p = true) (h0 : upV p ≠ []) : upV p ≠ p := fun k => by
  have := up_before h h0
  rw [k, cmpL_self] at this
  omega
/-- Put in its place: a tree that may be stays one, if the entry may be, stands in a directory, and takes no directory's place unless it is one. -/
theorem putL_good {C : List Ent} (hg : goodP C = true) {E : Ent} (hE : okEnt E = true) (hr : roomT C E.pa = 0) (hk : ∀ y ∈ C, y.pa = E.pa → y.dir = true → E.dir = true) (hf : fitsT (putL C E) = true) : goodP (putL C E) = true := by
  obtain ⟨_, h2, h3, h4⟩ := (goodP_iff C).1 hg
  have hA := putL_asc h2 E
  have key : ∀ e : Ent, okPath e.pa = true → roomT C e.pa = 0 → roomT (putL C E) e.pa = 0 := fun e hp hr => by
    by_cases h0 : upV e.pa = []
    · unfold roomT; rw [if_pos h0]
    · obtain ⟨y, hy, k, hd⟩ := (room_iff h2 h0).1 hr
      rw [room_iff hA h0]
      by_cases hye : y.pa = E.pa
      · exact ⟨E, putL_has C E, by rw [← hye, k], hk y hy hye hd⟩
      · exact ⟨y, putL_keeps hy hye, k, hd⟩
  refine (goodP_iff _).2 ⟨hf, hA, fun e he => ?_, fun e he => ?_⟩
  · rcases putL_mem he with rfl | he
    · exact hE
    · exact h3 e he
  · rcases putL_mem he with rfl | he
    · exact key e (okEnt_path hE) hr
    · exact key e (okEnt_path (h3 e he)) (h4 e he)
theorem hasT_iff {C : List Ent} (hA : AscE C) {p : Tx} : hasT C p = true ↔ ∃ y ∈ C, y.pa = p := by
  rcases asc_at hA p with ⟨h1, h2, h3⟩ | ⟨h1, h2⟩
  · exact ⟨fun _ => atT_mem (by omega), fun _ => h1⟩
  · exact ⟨fun h => by rw [h1] at h; (cases h), fun ⟨y, hy, k⟩ => by have := atT_has hy; rw [k] at this; omega⟩
theorem has_at {C : List Ent} {p : Tx} (h : hasT C p = true) : ∃ hl : posT C p < C.length, C[posT C p].pa = p := by
  have hl := hasT_lt h
  refine ⟨hl, ?_⟩
  unfold hasT at h
  rw [List.getElem?_eq_getElem hl] at h
  exact cmpL_zero.1 (of_decide_eq_true h)
theorem pos_of {C : List Ent} (hA : AscE C) {i : Nat} (hi : i < C.length) : hasT C C[i].pa = true ∧ posT C C[i].pa = i := by
  have h := (hasT_iff hA).2 ⟨C[i], List.getElem_mem hi, rfl⟩
  obtain ⟨hl, hk⟩ := has_at h
  refine ⟨h, ?_⟩
  rcases Nat.lt_trichotomy (posT C C[i].pa) i with h1 | h1 | h1
  · have := hA.lt hl hi h1; rw [hk, cmpL_self] at this; omega
  · exact h1
  · have := hA.lt hi hl h1; rw [hk, cmpL_self] at this; omega
theorem ask_ok {C : List Ent} {L : List ByteArray} (hg : goodP C = true) (h : ∀ p ∈ L, okPath p.data.toList = true) : askT C L = 0 := by
  unfold askT
  rw [hg, if_neg (by simp), if_pos (List.all_eq_true.2 h)]
/-- What was put in where nothing was, taken out again. -/
theorem put_back {C : List Ent} (hg : goodP C = true) {E : Ent} (hn : hasT C E.pa = false) (hX : goodP (putL C E) = true) : removeP (putL C E) E.1 = (C, 0) := by
  obtain ⟨_, h2, h3, h4⟩ := (goodP_iff C).1 hg
  obtain ⟨_, x2, x3, x4⟩ := (goodP_iff _).1 hX
  have hpl := posT_le C E.pa
  have hlen : (C.take (posT C E.pa)).length = posT C E.pa := by rw [List.length_take]; omega
  have hXe : putL C E = C.take (posT C E.pa) ++ E :: C.drop (posT C E.pa) := by unfold putL; rw [hn, if_neg (by simp)]
  have hi : posT C E.pa < (putL C E).length := by rw [hXe, List.length_append, List.length_cons, hlen]; omega
  have hat : (putL C E)[posT C E.pa] = E := by
    simp only [hXe]
    rw [List.getElem_append_right (by omega)]
    simp only [hlen, Nat.sub_self, List.getElem_cons_zero]
  obtain ⟨hh, hpos⟩ := pos_of x2 hi
  rw [hat] at hh hpos
  have hok : okPath E.pa = true := okEnt_path (x3 E (putL_has C E))
  have hask : askT (putL C E) [E.1] = 0 := ask_ok hX fun p hp => by rw [List.mem_singleton.1 hp]; exact hok
  have hf : findP (putL C E) E.1 = (posT C E.pa, 0) := by
    unfold findP
    rw [hask, if_neg (by simp)]
    show (if hasT (putL C E) E.pa = true then (posT (putL C E) E.pa, (0 : Int)) else (0, 5)) = _
    rw [hh, hpos, if_pos rfl]
  have hk : kidsP (putL C E) E.pa = [] := by
    unfold kidsP
    rw [if_pos hX]
    unfold inT
    rw [List.map_eq_nil_iff, List.filter_eq_nil_iff]
    intro e he k
    have k' := eq_of_beq k
    have h0 : upV e.pa ≠ [] := by rw [k']; exact ne_nil_of_ok hok
    rcases putL_mem he with rfl | he
    · exact up_ne hok h0 k'
    · obtain ⟨z, hz, k2, _⟩ := (room_iff h2 h0).1 (h4 e he)
      have := (hasT_iff h2).2 ⟨z, hz, k2.trans k'⟩
      rw [hn] at this
      cases this
  unfold removeP
  have hk' : (kidsP (putL C E) E.1.data.toList).length = 0 := by
    have : kidsP (putL C E) E.1.data.toList = [] := hk
    rw [this]; rfl
  rw [hf, hk']
  simp only [ne_eq, not_true_eq_false, if_false, Nat.lt_irrefl]
  have e1 : (putL C E).take (posT C E.pa) = C.take (posT C E.pa) := by rw [hXe]; exact List.take_left' hlen
  have e2 : (putL C E).drop (posT C E.pa + 1) = C.drop (posT C E.pa) := by
    rw [hXe, show C.take (posT C E.pa) ++ E :: C.drop (posT C E.pa) = (C.take (posT C E.pa) ++ [E]) ++ C.drop (posT C E.pa) by simp]
    exact List.drop_left' (by rw [List.length_append, hlen]; rfl)
  rw [e1, e2, List.take_append_drop]
end Go.Proofs.YthpendoblgndcaaDoor
/- Plain laws: what Put, Make, Find answer of a tree that may be. No condition. -/
namespace Go.Proofs.YthpendoblgndcaaDoor
open Go.RowKit
theorem askT_vals (C : List Ent) (L : List ByteArray) : askT C L = 0 ∨ askT C L = 1 ∨ askT C L = 4 := by
  unfold askT
  split
  · exact .inr (.inl rfl)
  · split
    · exact .inl rfl
    · exact .inr (.inr rfl)
theorem find_none {C : List Ent} {p : ByteArray} : (findP C p).2 = 5 ↔ askT C [p] = 0 ∧ hasT C p.data.toList = false := by
  unfold findP
  by_cases h : askT C [p] ≠ 0
  · rw [if_pos h]
    constructor
    · intro k
      rcases askT_vals C [p] with h1 | h1 | h1 <;> rw [h1] at k <;> simp at k
    · rintro ⟨k, _⟩; exact absurd k h
  · rw [if_neg h]
    have h0 : askT C [p] = 0 := by simpa using h
    cases hh : hasT C p.data.toList <;> simp [h0]
theorem dir_of {C : List Ent} (hA : AscE C) {p : Tx} (h : ¬ (hasT C p = true ∧ dirT C (posT C p) = true)) {y : Ent} (hy : y ∈ C) (k : y.pa = p) : y.dir = false := by
  have hh := (hasT_iff hA).2 ⟨y, hy, k⟩
  obtain ⟨hl, hk⟩ := has_at hh
  have hd : dirT C (posT C p) = y.dir := by
    unfold dirT
    rw [List.getElem?_eq_getElem hl]
    rw [asc_one hA (List.getElem_mem hl) hy (hk.trans k.symm)]
    rfl
  cases hy2 : y.dir with
  | false => rfl
  | true => exact absurd ⟨hh, by rw [hd, hy2]⟩ h
/-- Put: what it answers may be. -/
theorem put_good {C : List Ent} (hg : goodP C = true) (p : ByteArray) (b : List (BitVec 8)) (v : Value) : goodP (putP C p b v).1 = true ∨ okPath p.data.toList = false := by
  cases hp : okPath p.data.toList with
  | false => exact .inr rfl
  | true =>
    left
    obtain ⟨_, h2, _, _⟩ := (goodP_iff C).1 hg
    unfold putP
    split
    · exact hg
    · rename_i hr
      split
      · exact hg
      · rename_i hd
        split
        · exact hg
        · rename_i hl
          split
          · rename_i hf
            have hr' : roomT C p.data.toList = 0 := by simpa using hr
            refine putL_good hg ?_ hr' (fun y hy k hd2 => ?_) hf
            · show (!(false && decide (0 < b.length)) && (okPath p.data.toList && decide (b.length ≤ 2048))) = true
              rw [hp]
              have : b.length ≤ 2048 := by omega
              simp [this]
            · rw [dir_of h2 hd hy k] at hd2; cases hd2
          · exact hg
theorem putt_good {C : List Ent} (hg : goodP C = true) (p : ByteArray) (b : List (BitVec 8)) (v : Value) : goodP (puttP C p b v).1 = true := by
  unfold puttP
  split
  · exact hg
  · rename_i h
    rcases put_good hg p b v with h1 | h1
    · exact h1
    · rw [(askT_good (by simpa using h)).2 p (List.mem_singleton.2 rfl)] at h1; cases h1
theorem put_out {C : List Ent} {p : ByteArray} {b : List (BitVec 8)} {v : Value} (h : (putP C p b v).2 = 0) : (putP C p b v).1 = putL C (fileE p v b) := by
  unfold putP at h ⊢
  split at h
  · rename_i h1; exact absurd h h1
  · rename_i h1
    rw [if_neg h1]
    split at h
    · cases h
    · rename_i h2
      rw [if_neg h2]
      split at h
      · cases h
      · rename_i h3
        rw [if_neg h3]
        split at h
        · rename_i h4; rw [if_pos h4]
        · cases h
theorem back_put {C : List Ent} (hg : goodP C = true) {p : ByteArray} {b : List (BitVec 8)} {v : Value} (h : (puttP C p b v).2 = 0) (hn : (findP C p).2 = 5) : removeP (puttP C p b v).1 p = (C, 0) := by
  obtain ⟨ha, hh⟩ := find_none.1 hn
  have hG := putt_good hg p b v
  unfold puttP at h hG ⊢
  rw [if_neg (by simpa using ha)] at h hG ⊢
  rw [put_out h] at hG ⊢
  exact put_back hg (E := fileE p v b) hh hG
theorem make_cases {C : List Ent} (p : ByteArray) : ((makeP C p).2 ≠ 0 ∧ (makeP C p).1 = C) ∨ ((makeP C p).2 = 0 ∧ (makeP C p).1 = putL C (dirE p) ∧ askT C [p] = 0 ∧ hasT C p.data.toList = false ∧ roomT C p.data.toList = 0 ∧ fitsT (putL C (dirE p)) = true) := by
  unfold makeP
  by_cases h1 : askT C [p] ≠ 0
  · rw [if_pos h1]; exact .inl ⟨h1, rfl⟩
  · rw [if_neg h1]
    have h1' : askT C [p] = 0 := by simpa using h1
    cases h2 : hasT C p.data.toList with
    | true => rw [if_pos rfl]; exact .inl ⟨by simp, rfl⟩
    | false =>
      rw [if_neg (by simp)]
      by_cases h3 : roomT C p.data.toList ≠ 0
      · rw [if_pos h3]; exact .inl ⟨h3, rfl⟩
      · rw [if_neg h3]
        have h3' : roomT C p.data.toList = 0 := by simpa using h3
        cases h4 : fitsT (putL C (dirE p)) with
        | true => rw [if_pos rfl]; exact .inr ⟨rfl, rfl, h1', rfl, h3', rfl⟩
        | false => rw [if_neg (by simp)]; exact .inl ⟨by simp, rfl⟩
theorem make_good {C : List Ent} (hg : goodP C = true) (p : ByteArray) : goodP (makeP C p).1 = true := by
  rcases make_cases (C := C) p with ⟨_, h⟩ | ⟨_, h, ha, hh, hr, hf⟩
  · rw [h]; exact hg
  · rw [h]
    obtain ⟨_, h2, _, _⟩ := (goodP_iff C).1 hg
    have hp := (askT_good ha).2 p (List.mem_singleton.2 rfl)
    refine putL_good hg ?_ hr (fun y hy k _ => rfl) hf
    show (!(true && decide (0 < ([] : List (BitVec 8)).length)) && (okPath p.data.toList && decide (([] : List (BitVec 8)).length ≤ 2048))) = true
    rw [hp]; rfl
theorem back_make {C : List Ent} (hg : goodP C = true) {p : ByteArray} (h : (makeP C p).2 = 0) : removeP (makeP C p).1 p = (C, 0) ∧ (findP C p).2 = 5 := by
  have hG := make_good hg p
  rcases make_cases (C := C) p with ⟨h1, _⟩ | ⟨_, h1, ha, hh, hr, hf⟩
  · exact absurd h h1
  · rw [h1] at hG ⊢
    exact ⟨put_back hg (E := dirE p) hh hG, find_none.2 ⟨ha, hh⟩⟩
theorem putt_size {C : List Ent} {p : ByteArray} {b : List (BitVec 8)} (v : Value) : (puttP C p b v).1.length ≤ C.length + 1 ∧ bytesT (puttP C p b v).1 ≤ bytesT C + b.length ∧ ∀ e ∈ (puttP C p b v).1, e.1 = p ∨ e ∈ C := by
  have h0 : C.length ≤ C.length + 1 ∧ bytesT C ≤ bytesT C + b.length ∧ ∀ e ∈ C, e.1 = p ∨ e ∈ C := ⟨by omega, by omega, fun e he => .inr he⟩
  by_cases h : (puttP C p b v).2 = 0 ∧ askT C [p] = 0
  · have h1 : puttP C p b v = putP C p b v := by unfold puttP; rw [if_neg (by simpa using h.2)]
    rw [h1] at h ⊢
    rw [put_out h.1]
    refine ⟨?_, putL_bytes C (fileE p v b), fun e he => ?_⟩
    · rw [putL_len]; split <;> omega
    · rcases putL_mem he with rfl | he
      · exact .inl rfl
      · exact .inr he
  · have hc : (puttP C p b v).1 = C := by
      unfold puttP at h ⊢
      split
      · rfl
      · rename_i h1
        rw [if_neg h1] at h
        have hne : (putP C p b v).2 ≠ 0 := fun k => h ⟨k, by simpa using h1⟩
        unfold putP at hne ⊢
        split
        · rfl
        · split
          · rfl
          · split
            · rfl
            · split
              · rename_i a1 a2 a3 a4; rw [if_neg a1, if_neg a2, if_neg a3, if_pos a4] at hne; exact absurd rfl hne
              · rfl
    rw [hc]; exact h0
theorem make_size {C : List Ent} {p : ByteArray} : (makeP C p).1.length ≤ C.length + 1 ∧ bytesT (makeP C p).1 ≤ bytesT C ∧ ∀ e ∈ (makeP C p).1, e.1 = p ∨ e ∈ C := by
  rcases make_cases (C := C) p with ⟨_, h⟩ | ⟨_, h, _⟩
  · rw [h]; exact ⟨by omega, Nat.le_refl _, fun e he => .inr he⟩
  · rw [h]
    refine ⟨?_, putL_bytes C (dirE p), fun e he => ?_⟩
    · rw [putL_len]; split <;> omega
    · rcases putL_mem he with rfl | he
      · exact .inl rfl
      · exact .inr he
theorem good_bytes {C : List Ent} (hg : goodP C = true) : ∀ e ∈ C, e.by.length ≤ 140737488355328 := fun e he => by
  obtain ⟨_, _, h3, _⟩ := (goodP_iff C).1 hg
  have := h3 e he
  unfold okEnt at this
  rw [Bool.and_eq_true, Bool.and_eq_true, decide_eq_true_eq] at this
  omega
end Go.Proofs.YthpendoblgndcaaDoor
/- A slice of bytes that came in. No condition. -/
namespace Go.Proofs.YthpendoblgndcaaDoor
open Go.ChangeShapes Go.WideShapes Go.ChangeAt Go.RowKit Go.ChangeMaps Go.Deep Go.Joins
set_option maxRecDepth 100000 in
theorem open_bytes8 {H : Type} {enc : TypeId × Value → H} {w : World} {base b0 : Nat} {held : Bool} {r : Reach} {v : Value} {d : DataW H} {ps : List MemPlace}
    (hval : Value.okWide Tryd.prog w r b0 30 v) (h : DataW.Trod enc Tryd.prog w base (fun _ => true) held 30 v d ps) : ∃ b : List (BitVec 8), Bs w v b ∧ b.length ≤ maxLen ∧ (b.length = 0 ∨ ∃ n ∈ d.weights Tryd.prog 30, b.length ≤ n) := by
  obtain ⟨a0, len0, cap0, rfl⟩ := okWide_slice Tryd.underlying30 hval
  obtain ⟨fuel, hf⟩ := h
  exact open_bytesF (by simpa [Value.cells] using hf)
end Go.Proofs.YthpendoblgndcaaDoor
