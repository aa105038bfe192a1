/- Contract: the law's own sameR: are two recipes alike? Condition: at most a million lines and names. -/
import Derived.Test.YtmjonlffhhehjaaGreatDoorBo2
namespace Go.Proofs.YtmjonlffhhehjaaGreatDoor
open Go.RowKit
theorem ne_list {x y : ByteArray} (h : x ≠ y) : (x.toList == y.toList) = false := by
  refine beq_false_of_ne (fun e => h ?_)
  rw [ByteArray.toList_eq, ByteArray.toList_eq] at e
  cases x; cases y
  congr 1
  exact Array.toList_inj.1 e
theorem gdSumR : Tryz.prog.eqGuardType Tryz.prog.depth 72 = false := by kernel_rfl
set_option maxHeartbeats 16000000 in
set_option maxRecDepth 100000 in
theorem sameR_any (A B : List Ln) (qa qb : Option Addr) (ca cb : Nat) (w : World) (hA : A.length ≤ 1000000) (hNA : ∀ l ∈ A, l.2.2.2.2.length ≤ 1000000) (hsa : Sees w w.heap.size qa (rowL A)) (hsb : Sees w w.heap.size qb (rowL B)) (hla : Lnb w A) (hlb : Lnb w B) (V : Bool) (hV : V = true ↔ A.map keyL = B.map keyL) :
    Calls Tryz.prog 16 #[.slice qa A.length ca, .slice qb B.length cb] w fun e w' => e = .returned (.bool V) ∧ Below w.heap.size w w' := by
  have HSA := Lib.hid hsa
  have HSB := Lib.hid hsb
  have HLA := Lib.hid hla
  have HLB := Lib.hid hlb
  have HNA := Lib.hid hNA
  have HV := Lib.hid hV
  clear hsa hsb hla hlb hNA hV
  by_cases hlen : A.length = B.length
  case neg =>
    have hv : V = false := by
      exact Bool.eq_false_iff.2 (fun hv => hlen (by have := congrArg List.length (HV.out.1 hv); simpa using this))
    subst hv
    have k1 : ((A.length : Int) == (B.length : Int)) = false := beq_false_of_ne (by omega)
    have k2 : ¬ ((A.length : Int) = (B.length : Int)) := by omega
    go_enter Tryz.func16, Tryz.ntmps16
    go_wp2_with fail
    go_ret
    exact ⟨rfl, Below.refl _ _⟩
  have HLN := Lib.hid hlen
  rw [← hlen]
  go_enter Tryz.func16, Tryz.ntmps16
  go_upto_region 4 with fail
  go_loopw [5] (fun vi wr => ∃ j : Nat, j ≤ A.length ∧ vi = .int .i64 j ∧ (A.take j).map keyL = (B.take j).map keyL ∧ Below w.heap.size w wr) (fun vi _ => A.length - (intOf vi).toNat)
  case atStart => exact ⟨0, by omega, rfl, rfl, Below.refl _ _⟩
  case round =>
    rename_i wr
    obtain ⟨j, hj, rfl, hkey, hBw⟩ := hrel
    have HKEY := Lib.hid hkey
    have HB := Lib.hid hBw
    clear hkey hBw
    by_cases hlt : j < A.length
    · have hltb : j < B.length := by omega
      obtain ⟨aa, rfl, _, hca⟩ := Sees.ln HSA.out hlt
      obtain ⟨ab, rfl, _, hcb⟩ := Sees.ln HSB.out hltb
      obtain ⟨p, hp⟩ : ∃ p, p = A[j] := ⟨_, rfl⟩
      obtain ⟨r, hr⟩ : ∃ r, r = B[j] := ⟨_, rfl⟩
      have hmp : p ∈ A := by rw [hp]; exact List.getElem_mem hlt
      have hmr : r ∈ B := by rw [hr]; exact List.getElem_mem hltb
      have HTA : Hid ((A.take (j + 1)).map keyL = (A.take j).map keyL ++ [keyL p]) := Lib.hid (by rw [List.take_add_one, List.getElem?_eq_getElem hlt, ← hp, List.map_append]; rfl)
      have HTB : Hid ((B.take (j + 1)).map keyL = (B.take j).map keyL ++ [keyL r]) := Lib.hid (by rw [List.take_add_one, List.getElem?_eq_getElem hltb, ← hr, List.map_append]; rfl)
      have HNE : Hid (keyL p ≠ keyL r → V = false) := Lib.hid (fun h => by
        refine Bool.eq_false_iff.2 (fun hv => h ?_)
        have e1 : (A.map keyL)[j]? = (B.map keyL)[j]? := by rw [HV.out.1 hv]
        rw [List.getElem?_map, List.getElem?_map, List.getElem?_eq_getElem hlt, List.getElem?_eq_getElem hltb, ← hp, ← hr] at e1
        exact Option.some.inj e1)
      rw [← hp] at hca
      rw [← hr] at hcb
      have hup := HLA.out p hmp
      have hur := HLB.out r hmr
      have hpn := HNA.out p hmp
      obtain ⟨xa, da, sa, va, Na⟩ := p
      obtain ⟨xb, db, sb, vb, Nb⟩ := r
      obtain ⟨q1, c1, hv1, r11, r12, r13⟩ := hup
      obtain ⟨q2, c2, hv2, r21, r22, r23⟩ := hur
      have hv1' : va = .slice q1 (List.length Na) c1 := hv1
      have hv2' : vb = .slice q2 (List.length Nb) c2 := hv2
      subst hv1'
      subst hv2'
      have HSM : Hid (∀ w1, Below w.heap.size w w1 → Calls Tryz.prog 46 #[.slice q1 Na.length c1, .slice q2 Nb.length c2] w1 fun e w' => e = .returned (.bool (decide (Na = Nb))) ∧ Below w1.heap.size w1 w') := Lib.hid (fun w1 h => rsame_any Na Nb q1 q2 c1 c2 hpn w1 ((r13.keep h).more h.size) ((r23.keep h).more h.size))
      have hjj : (j : Int) < (A.length : Int) := by omega
      have hjb : (j : Int) < (B.length : Int) := by omega
      have kll : j < 1000000 := by omega
      have HA0 : Hid (∀ w', Below w.heap.size wr.drew w' → w'.cell? (aa.add (j * 35)) = some (.string xa)) := Lib.hid (fun w' h => by have := hca w' (HB.out.drew.trans h) 0 _ (encL_0 _); rwa [add_add, Nat.add_zero] at this)
      have HA1 : Hid (∀ w', Below w.heap.size wr.drew w' → w'.cell? ⟨(aa.add (j * 35)).block, (aa.add (j * 35)).off + 1, none⟩ = some (.bool da)) := Lib.hid (fun w' h => hca w' (HB.out.drew.trans h) 1 _ (encL_1 _))
      have HA34 : Hid (∀ w', Below w.heap.size wr.drew w' → w'.cell? ⟨(aa.add (j * 35)).block, (aa.add (j * 35)).off + 34, none⟩ = some (.slice q1 Na.length c1)) := Lib.hid (fun w' h => hca w' (HB.out.drew.trans h) 34 _ (encL_n (xa, da, sa, Value.slice q1 Na.length c1, Na)))
      have e2a : (⟨(aa.add (j * 35)).block, (aa.add (j * 35)).off + 2, none⟩ : Addr) = (aa.add (j * 35)).add 2 := rfl
      have HAU : Hid (∀ w', Below w.heap.size wr.drew w' → ∀ k u, (encU sa)[k]? = some u → w'.cell? ((⟨(aa.add (j * 35)).block, (aa.add (j * 35)).off + 2, none⟩ : Addr).add k) = some u) := Lib.hid (fun w' h k u hu => by rw [e2a, add_add, Nat.add_comm]; exact hca w' (HB.out.drew.trans h) _ u (encL_su (p := (xa, da, sa, Value.slice q1 Na.length c1, Na)) hu))
      have HB0 : Hid (∀ w', Below w.heap.size wr.drew w' → w'.cell? (ab.add (j * 35)) = some (.string xb)) := Lib.hid (fun w' h => by have := hcb w' (HB.out.drew.trans h) 0 _ (encL_0 _); rwa [add_add, Nat.add_zero] at this)
      have HB1 : Hid (∀ w', Below w.heap.size wr.drew w' → w'.cell? ⟨(ab.add (j * 35)).block, (ab.add (j * 35)).off + 1, none⟩ = some (.bool db)) := Lib.hid (fun w' h => hcb w' (HB.out.drew.trans h) 1 _ (encL_1 _))
      have HB34 : Hid (∀ w', Below w.heap.size wr.drew w' → w'.cell? ⟨(ab.add (j * 35)).block, (ab.add (j * 35)).off + 34, none⟩ = some (.slice q2 Nb.length c2)) := Lib.hid (fun w' h => hcb w' (HB.out.drew.trans h) 34 _ (encL_n (xb, db, sb, Value.slice q2 Nb.length c2, Nb)))
      have e2b : (⟨(ab.add (j * 35)).block, (ab.add (j * 35)).off + 2, none⟩ : Addr) = (ab.add (j * 35)).add 2 := rfl
      have HBU : Hid (∀ w', Below w.heap.size wr.drew w' → ∀ k u, (encU sb)[k]? = some u → w'.cell? ((⟨(ab.add (j * 35)).block, (ab.add (j * 35)).off + 2, none⟩ : Addr).add k) = some u) := Lib.hid (fun w' h k u hu => by rw [e2b, add_add, Nat.add_comm]; exact hcb w' (HB.out.drew.trans h) _ u (encL_su (p := (xb, db, sb, Value.slice q2 Nb.length c2, Nb)) hu))
      clear hca hcb hp hr hmp hmr hv1 hv2 hpn r11 r12 r13 r21 r22 r23 e2a e2b
      go_upto_region 6 with fail
      by_cases hx : xa = xb
      case neg =>
        have kx := ne_list hx
        refine wp_region_ors (fun w' => Below w.heap.size wr.drew w') [(0, true), (1, true), (2, true), (3, true), (4, true), (5, true), (6, true), (7, true), (8, true), (9, true), (10, true), (11, true), (12, true), (13, true), (14, true), (15, true), (16, true), (17, true), (18, true), (19, true), (20, true), (21, true), (22, true), (23, true), (24, true), (25, true), (26, true), (27, true), (28, true), (29, true), (30, true), (31, true), (32, true), (33, true), (34, true), (35, true), (36, true), (37, true), (38, true), (39, true), (40, true), (41, true), (42, true), (43, true), (44, true), (45, true), (46, true), (47, true), (48, false), (49, true), (50, true)] (by kernel_rfl) (by kernel_rfl) (by kernel_rfl) (Below.refl _ _) ?_
        have HB2 := Lib.hid HB.out.drew
        generalize wr.drew = wd at *
        simp only [pickOrs, List.getElem?_cons_zero, List.getElem?_cons_succ]
        refine ors_pure (v := ?_) (by kernel_rfl) ?_ ?_
        rotate_left
        · intro w' hv; clear hv; go_simp; try with_reducible rfl
        try simp only [Act.put, List.setIfInBounds_toArray, List.set_cons_zero, List.set_cons_succ]
        refine ors_pure (v := ?_) (by kernel_rfl) ?_ ?_
        rotate_left
        · intro w' hv; clear hv; go_simp; try with_reducible rfl
        try simp only [Act.put, List.setIfInBounds_toArray, List.set_cons_zero, List.set_cons_succ]
        refine ors_pure (v := ?_) (by kernel_rfl) ?_ ?_
        rotate_left
        · intro w' hv; clear hv; go_simp; try with_reducible rfl
        try simp only [Act.put, List.setIfInBounds_toArray, List.set_cons_zero, List.set_cons_succ]
        refine ors_pure (v := ?_) (by kernel_rfl) ?_ ?_
        rotate_left
        · intro w' hv; clear hv; go_simp; try with_reducible rfl
        try simp only [Act.put, List.setIfInBounds_toArray, List.set_cons_zero, List.set_cons_succ]
        refine ors_pure (v := ?_) (by kernel_rfl) ?_ ?_
        rotate_left
        · intro w' hv; have c0 := HA0.out w' hv; clear hv; go_simp; try with_reducible rfl
        try simp only [Act.put, List.setIfInBounds_toArray, List.set_cons_zero, List.set_cons_succ]
        refine ors_pure (v := ?_) (by kernel_rfl) ?_ ?_
        rotate_left
        · intro w' hv; clear hv; go_simp; try with_reducible rfl
        try simp only [Act.put, List.setIfInBounds_toArray, List.set_cons_zero, List.set_cons_succ]
        refine ors_pure (v := ?_) (by kernel_rfl) ?_ ?_
        rotate_left
        · intro w' hv; clear hv; go_simp; try with_reducible rfl
        try simp only [Act.put, List.setIfInBounds_toArray, List.set_cons_zero, List.set_cons_succ]
        refine ors_pure (v := ?_) (by kernel_rfl) ?_ ?_
        rotate_left
        · intro w' hv; clear hv; go_simp; try with_reducible rfl
        try simp only [Act.put, List.setIfInBounds_toArray, List.set_cons_zero, List.set_cons_succ]
        refine ors_pure (v := ?_) (by kernel_rfl) ?_ ?_
        rotate_left
        · intro w' hv; clear hv; go_simp; try with_reducible rfl
        try simp only [Act.put, List.setIfInBounds_toArray, List.set_cons_zero, List.set_cons_succ]
        refine ors_pure (v := ?_) (by kernel_rfl) ?_ ?_
        rotate_left
        · intro w' hv; have c0 := HB0.out w' hv; clear hv; go_simp; try with_reducible rfl
        try simp only [Act.put, List.setIfInBounds_toArray, List.set_cons_zero, List.set_cons_succ]
        refine ors_pure (v := ?_) (by kernel_rfl) ?_ ?_
        rotate_left
        · intro w' hv; clear hv; go_simp; try with_reducible rfl
        try simp only [Act.put, List.setIfInBounds_toArray, List.set_cons_zero, List.set_cons_succ]
        refine ors_pure (v := ?_) (by kernel_rfl) ?_ ?_
        rotate_left
        · intro w' hv; clear hv; go_simp; try with_reducible rfl
        try simp only [Act.put, List.setIfInBounds_toArray, List.set_cons_zero, List.set_cons_succ]
        refine ors_skip (by kernel_rfl) ?_
        try simp only [Act.put, List.setIfInBounds_toArray, List.set_cons_zero, List.set_cons_succ]
        refine ors_skip (by kernel_rfl) ?_
        try simp only [Act.put, List.setIfInBounds_toArray, List.set_cons_zero, List.set_cons_succ]
        refine ors_skip (by kernel_rfl) ?_
        try simp only [Act.put, List.setIfInBounds_toArray, List.set_cons_zero, List.set_cons_succ]
        refine ors_skip (by kernel_rfl) ?_
        try simp only [Act.put, List.setIfInBounds_toArray, List.set_cons_zero, List.set_cons_succ]
        refine ors_skip (by kernel_rfl) ?_
        try simp only [Act.put, List.setIfInBounds_toArray, List.set_cons_zero, List.set_cons_succ]
        refine ors_skip (by kernel_rfl) ?_
        try simp only [Act.put, List.setIfInBounds_toArray, List.set_cons_zero, List.set_cons_succ]
        refine ors_skip (by kernel_rfl) ?_
        try simp only [Act.put, List.setIfInBounds_toArray, List.set_cons_zero, List.set_cons_succ]
        refine ors_skip (by kernel_rfl) ?_
        try simp only [Act.put, List.setIfInBounds_toArray, List.set_cons_zero, List.set_cons_succ]
        refine ors_skip (by kernel_rfl) ?_
        try simp only [Act.put, List.setIfInBounds_toArray, List.set_cons_zero, List.set_cons_succ]
        refine ors_skip (by kernel_rfl) ?_
        try simp only [Act.put, List.setIfInBounds_toArray, List.set_cons_zero, List.set_cons_succ]
        refine ors_skip (by kernel_rfl) ?_
        try simp only [Act.put, List.setIfInBounds_toArray, List.set_cons_zero, List.set_cons_succ]
        refine ors_pure (v := ?_) (by kernel_rfl) ?_ ?_
        rotate_left
        · intro w' hv; clear hv; go_simp; try with_reducible rfl
        try simp only [Act.put, List.setIfInBounds_toArray, List.set_cons_zero, List.set_cons_succ]
        refine ors_pure (v := ?_) (by kernel_rfl) ?_ ?_
        rotate_left
        · intro w' hv; clear hv; go_simp; try with_reducible rfl
        try simp only [Act.put, List.setIfInBounds_toArray, List.set_cons_zero, List.set_cons_succ]
        refine ors_skip (by kernel_rfl) ?_
        try simp only [Act.put, List.setIfInBounds_toArray, List.set_cons_zero, List.set_cons_succ]
        refine ors_skip (by kernel_rfl) ?_
        try simp only [Act.put, List.setIfInBounds_toArray, List.set_cons_zero, List.set_cons_succ]
        refine ors_skip (by kernel_rfl) ?_
        try simp only [Act.put, List.setIfInBounds_toArray, List.set_cons_zero, List.set_cons_succ]
        refine ors_skip (by kernel_rfl) ?_
        try simp only [Act.put, List.setIfInBounds_toArray, List.set_cons_zero, List.set_cons_succ]
        refine ors_skip (by kernel_rfl) ?_
        try simp only [Act.put, List.setIfInBounds_toArray, List.set_cons_zero, List.set_cons_succ]
        refine ors_skip (by kernel_rfl) ?_
        try simp only [Act.put, List.setIfInBounds_toArray, List.set_cons_zero, List.set_cons_succ]
        refine ors_skip (by kernel_rfl) ?_
        try simp only [Act.put, List.setIfInBounds_toArray, List.set_cons_zero, List.set_cons_succ]
        refine ors_skip (by kernel_rfl) ?_
        try simp only [Act.put, List.setIfInBounds_toArray, List.set_cons_zero, List.set_cons_succ]
        refine ors_skip (by kernel_rfl) ?_
        try simp only [Act.put, List.setIfInBounds_toArray, List.set_cons_zero, List.set_cons_succ]
        refine ors_skip (by kernel_rfl) ?_
        try simp only [Act.put, List.setIfInBounds_toArray, List.set_cons_zero, List.set_cons_succ]
        refine ors_skip (by kernel_rfl) ?_
        try simp only [Act.put, List.setIfInBounds_toArray, List.set_cons_zero, List.set_cons_succ]
        refine ors_pure (v := ?_) (by kernel_rfl) ?_ ?_
        rotate_left
        · intro w' hv; clear hv; go_simp; try with_reducible rfl
        try simp only [Act.put, List.setIfInBounds_toArray, List.set_cons_zero, List.set_cons_succ]
        refine ors_pure (v := ?_) (by kernel_rfl) ?_ ?_
        rotate_left
        · intro w' hv; clear hv; go_simp; try with_reducible rfl
        try simp only [Act.put, List.setIfInBounds_toArray, List.set_cons_zero, List.set_cons_succ]
        refine ors_skip (by kernel_rfl) ?_
        try simp only [Act.put, List.setIfInBounds_toArray, List.set_cons_zero, List.set_cons_succ]
        refine ors_skip (by kernel_rfl) ?_
        try simp only [Act.put, List.setIfInBounds_toArray, List.set_cons_zero, List.set_cons_succ]
        refine ors_skip (by kernel_rfl) ?_
        try simp only [Act.put, List.setIfInBounds_toArray, List.set_cons_zero, List.set_cons_succ]
        refine ors_skip (by kernel_rfl) ?_
        try simp only [Act.put, List.setIfInBounds_toArray, List.set_cons_zero, List.set_cons_succ]
        refine ors_skip (by kernel_rfl) ?_
        try simp only [Act.put, List.setIfInBounds_toArray, List.set_cons_zero, List.set_cons_succ]
        refine ors_skip (by kernel_rfl) ?_
        try simp only [Act.put, List.setIfInBounds_toArray, List.set_cons_zero, List.set_cons_succ]
        refine ors_skip (by kernel_rfl) ?_
        try simp only [Act.put, List.setIfInBounds_toArray, List.set_cons_zero, List.set_cons_succ]
        refine ors_skip (by kernel_rfl) ?_
        try simp only [Act.put, List.setIfInBounds_toArray, List.set_cons_zero, List.set_cons_succ]
        refine ors_skip (by kernel_rfl) ?_
        try simp only [Act.put, List.setIfInBounds_toArray, List.set_cons_zero, List.set_cons_succ]
        refine ors_skip (by kernel_rfl) ?_
        try simp only [Act.put, List.setIfInBounds_toArray, List.set_cons_zero, List.set_cons_succ]
        refine ors_pass (by kernel_rfl) (Below.refl _ _) ?_
        try simp only [Act.put, List.setIfInBounds_toArray, List.set_cons_zero, List.set_cons_succ]
        refine ors_skip (by kernel_rfl) ?_
        try simp only [Act.put, List.setIfInBounds_toArray, List.set_cons_zero, List.set_cons_succ]
        refine ors_pure (v := ?_) (by kernel_rfl) ?_ ?_
        rotate_left
        · intro w' hv; clear hv; go_simp; try with_reducible rfl
        try simp only [Act.put, List.setIfInBounds_toArray, List.set_cons_zero, List.set_cons_succ]
        refine ors_nil ?_
        go_wp2_with fail
        go_ret
        exact ⟨by rw [HNE.out (fun e => hx (congrArg Prod.fst e))]; rfl, HB2.out⟩
      subst hx
      by_cases hd : da = db
      case neg =>
        have kd : (da == db) = false := beq_false_of_ne hd
        refine wp_region_ors (fun w' => Below w.heap.size wr.drew w') [(0, true), (1, true), (2, true), (3, true), (4, true), (5, true), (6, true), (7, true), (8, true), (9, true), (10, true), (11, true), (12, true), (13, true), (14, true), (15, true), (16, true), (17, true), (18, true), (19, true), (20, true), (21, true), (22, true), (23, true), (24, true), (25, true), (26, true), (27, true), (28, true), (29, true), (30, true), (31, true), (32, true), (33, true), (34, true), (35, true), (36, true), (37, true), (38, true), (39, true), (40, true), (41, true), (42, true), (43, true), (44, true), (45, true), (46, true), (47, true), (48, false), (49, true), (50, true)] (by kernel_rfl) (by kernel_rfl) (by kernel_rfl) (Below.refl _ _) ?_
        have HB2 := Lib.hid HB.out.drew
        generalize wr.drew = wd at *
        simp only [pickOrs, List.getElem?_cons_zero, List.getElem?_cons_succ]
        refine ors_pure (v := ?_) (by kernel_rfl) ?_ ?_
        rotate_left
        · intro w' hv; clear hv; go_simp; try with_reducible rfl
        try simp only [Act.put, List.setIfInBounds_toArray, List.set_cons_zero, List.set_cons_succ]
        refine ors_pure (v := ?_) (by kernel_rfl) ?_ ?_
        rotate_left
        · intro w' hv; clear hv; go_simp; try with_reducible rfl
        try simp only [Act.put, List.setIfInBounds_toArray, List.set_cons_zero, List.set_cons_succ]
        refine ors_pure (v := ?_) (by kernel_rfl) ?_ ?_
        rotate_left
        · intro w' hv; clear hv; go_simp; try with_reducible rfl
        try simp only [Act.put, List.setIfInBounds_toArray, List.set_cons_zero, List.set_cons_succ]
        refine ors_pure (v := ?_) (by kernel_rfl) ?_ ?_
        rotate_left
        · intro w' hv; clear hv; go_simp; try with_reducible rfl
        try simp only [Act.put, List.setIfInBounds_toArray, List.set_cons_zero, List.set_cons_succ]
        refine ors_pure (v := ?_) (by kernel_rfl) ?_ ?_
        rotate_left
        · intro w' hv; have c0 := HA0.out w' hv; clear hv; go_simp; try with_reducible rfl
        try simp only [Act.put, List.setIfInBounds_toArray, List.set_cons_zero, List.set_cons_succ]
        refine ors_pure (v := ?_) (by kernel_rfl) ?_ ?_
        rotate_left
        · intro w' hv; clear hv; go_simp; try with_reducible rfl
        try simp only [Act.put, List.setIfInBounds_toArray, List.set_cons_zero, List.set_cons_succ]
        refine ors_pure (v := ?_) (by kernel_rfl) ?_ ?_
        rotate_left
        · intro w' hv; clear hv; go_simp; try with_reducible rfl
        try simp only [Act.put, List.setIfInBounds_toArray, List.set_cons_zero, List.set_cons_succ]
        refine ors_pure (v := ?_) (by kernel_rfl) ?_ ?_
        rotate_left
        · intro w' hv; clear hv; go_simp; try with_reducible rfl
        try simp only [Act.put, List.setIfInBounds_toArray, List.set_cons_zero, List.set_cons_succ]
        refine ors_pure (v := ?_) (by kernel_rfl) ?_ ?_
        rotate_left
        · intro w' hv; clear hv; go_simp; try with_reducible rfl
        try simp only [Act.put, List.setIfInBounds_toArray, List.set_cons_zero, List.set_cons_succ]
        refine ors_pure (v := ?_) (by kernel_rfl) ?_ ?_
        rotate_left
        · intro w' hv; have c0 := HB0.out w' hv; clear hv; go_simp; try with_reducible rfl
        try simp only [Act.put, List.setIfInBounds_toArray, List.set_cons_zero, List.set_cons_succ]
        refine ors_pure (v := ?_) (by kernel_rfl) ?_ ?_
        rotate_left
        · intro w' hv; clear hv; go_simp; try with_reducible rfl
        try simp only [Act.put, List.setIfInBounds_toArray, List.set_cons_zero, List.set_cons_succ]
        refine ors_pure (v := ?_) (by kernel_rfl) ?_ ?_
        rotate_left
        · intro w' hv; clear hv; go_simp; try with_reducible rfl
        try simp only [Act.put, List.setIfInBounds_toArray, List.set_cons_zero, List.set_cons_succ]
        refine ors_pure (v := ?_) (by kernel_rfl) ?_ ?_
        rotate_left
        · intro w' hv; clear hv; go_simp; try with_reducible rfl
        try simp only [Act.put, List.setIfInBounds_toArray, List.set_cons_zero, List.set_cons_succ]
        refine ors_pure (v := ?_) (by kernel_rfl) ?_ ?_
        rotate_left
        · intro w' hv; clear hv; go_simp; try with_reducible rfl
        try simp only [Act.put, List.setIfInBounds_toArray, List.set_cons_zero, List.set_cons_succ]
        refine ors_pure (v := ?_) (by kernel_rfl) ?_ ?_
        rotate_left
        · intro w' hv; clear hv; go_simp; try with_reducible rfl
        try simp only [Act.put, List.setIfInBounds_toArray, List.set_cons_zero, List.set_cons_succ]
        refine ors_pure (v := ?_) (by kernel_rfl) ?_ ?_
        rotate_left
        · intro w' hv; clear hv; go_simp; try with_reducible rfl
        try simp only [Act.put, List.setIfInBounds_toArray, List.set_cons_zero, List.set_cons_succ]
        refine ors_pure (v := ?_) (by kernel_rfl) ?_ ?_
        rotate_left
        · intro w' hv; have c1 := HA1.out w' hv; clear hv; go_simp; try with_reducible rfl
        try simp only [Act.put, List.setIfInBounds_toArray, List.set_cons_zero, List.set_cons_succ]
        refine ors_pure (v := ?_) (by kernel_rfl) ?_ ?_
        rotate_left
        · intro w' hv; clear hv; go_simp; try with_reducible rfl
        try simp only [Act.put, List.setIfInBounds_toArray, List.set_cons_zero, List.set_cons_succ]
        refine ors_pure (v := ?_) (by kernel_rfl) ?_ ?_
        rotate_left
        · intro w' hv; clear hv; go_simp; try with_reducible rfl
        try simp only [Act.put, List.setIfInBounds_toArray, List.set_cons_zero, List.set_cons_succ]
        refine ors_pure (v := ?_) (by kernel_rfl) ?_ ?_
        rotate_left
        · intro w' hv; clear hv; go_simp; try with_reducible rfl
        try simp only [Act.put, List.setIfInBounds_toArray, List.set_cons_zero, List.set_cons_succ]
        refine ors_pure (v := ?_) (by kernel_rfl) ?_ ?_
        rotate_left
        · intro w' hv; clear hv; go_simp; try with_reducible rfl
        try simp only [Act.put, List.setIfInBounds_toArray, List.set_cons_zero, List.set_cons_succ]
        refine ors_pure (v := ?_) (by kernel_rfl) ?_ ?_
        rotate_left
        · intro w' hv; have c1 := HB1.out w' hv; clear hv; go_simp; try with_reducible rfl
        try simp only [Act.put, List.setIfInBounds_toArray, List.set_cons_zero, List.set_cons_succ]
        refine ors_pure (v := ?_) (by kernel_rfl) ?_ ?_
        rotate_left
        · intro w' hv; clear hv; go_simp; try with_reducible rfl
        try simp only [Act.put, List.setIfInBounds_toArray, List.set_cons_zero, List.set_cons_succ]
        refine ors_pure (v := ?_) (by kernel_rfl) ?_ ?_
        rotate_left
        · intro w' hv; clear hv; go_simp; try with_reducible rfl
        try simp only [Act.put, List.setIfInBounds_toArray, List.set_cons_zero, List.set_cons_succ]
        refine ors_pure (v := ?_) (by kernel_rfl) ?_ ?_
        rotate_left
        · intro w' hv; clear hv; go_simp; try with_reducible rfl
        try simp only [Act.put, List.setIfInBounds_toArray, List.set_cons_zero, List.set_cons_succ]
        refine ors_skip (by kernel_rfl) ?_
        try simp only [Act.put, List.setIfInBounds_toArray, List.set_cons_zero, List.set_cons_succ]
        refine ors_skip (by kernel_rfl) ?_
        try simp only [Act.put, List.setIfInBounds_toArray, List.set_cons_zero, List.set_cons_succ]
        refine ors_skip (by kernel_rfl) ?_
        try simp only [Act.put, List.setIfInBounds_toArray, List.set_cons_zero, List.set_cons_succ]
        refine ors_skip (by kernel_rfl) ?_
        try simp only [Act.put, List.setIfInBounds_toArray, List.set_cons_zero, List.set_cons_succ]
        refine ors_skip (by kernel_rfl) ?_
        try simp only [Act.put, List.setIfInBounds_toArray, List.set_cons_zero, List.set_cons_succ]
        refine ors_skip (by kernel_rfl) ?_
        try simp only [Act.put, List.setIfInBounds_toArray, List.set_cons_zero, List.set_cons_succ]
        refine ors_skip (by kernel_rfl) ?_
        try simp only [Act.put, List.setIfInBounds_toArray, List.set_cons_zero, List.set_cons_succ]
        refine ors_skip (by kernel_rfl) ?_
        try simp only [Act.put, List.setIfInBounds_toArray, List.set_cons_zero, List.set_cons_succ]
        refine ors_skip (by kernel_rfl) ?_
        try simp only [Act.put, List.setIfInBounds_toArray, List.set_cons_zero, List.set_cons_succ]
        refine ors_skip (by kernel_rfl) ?_
        try simp only [Act.put, List.setIfInBounds_toArray, List.set_cons_zero, List.set_cons_succ]
        refine ors_skip (by kernel_rfl) ?_
        try simp only [Act.put, List.setIfInBounds_toArray, List.set_cons_zero, List.set_cons_succ]
        refine ors_pure (v := ?_) (by kernel_rfl) ?_ ?_
        rotate_left
        · intro w' hv; clear hv; go_simp; try with_reducible rfl
        try simp only [Act.put, List.setIfInBounds_toArray, List.set_cons_zero, List.set_cons_succ]
        refine ors_pure (v := ?_) (by kernel_rfl) ?_ ?_
        rotate_left
        · intro w' hv; clear hv; go_simp; try with_reducible rfl
        try simp only [Act.put, List.setIfInBounds_toArray, List.set_cons_zero, List.set_cons_succ]
        refine ors_skip (by kernel_rfl) ?_
        try simp only [Act.put, List.setIfInBounds_toArray, List.set_cons_zero, List.set_cons_succ]
        refine ors_skip (by kernel_rfl) ?_
        try simp only [Act.put, List.setIfInBounds_toArray, List.set_cons_zero, List.set_cons_succ]
        refine ors_skip (by kernel_rfl) ?_
        try simp only [Act.put, List.setIfInBounds_toArray, List.set_cons_zero, List.set_cons_succ]
        refine ors_skip (by kernel_rfl) ?_
        try simp only [Act.put, List.setIfInBounds_toArray, List.set_cons_zero, List.set_cons_succ]
        refine ors_skip (by kernel_rfl) ?_
        try simp only [Act.put, List.setIfInBounds_toArray, List.set_cons_zero, List.set_cons_succ]
        refine ors_skip (by kernel_rfl) ?_
        try simp only [Act.put, List.setIfInBounds_toArray, List.set_cons_zero, List.set_cons_succ]
        refine ors_skip (by kernel_rfl) ?_
        try simp only [Act.put, List.setIfInBounds_toArray, List.set_cons_zero, List.set_cons_succ]
        refine ors_skip (by kernel_rfl) ?_
        try simp only [Act.put, List.setIfInBounds_toArray, List.set_cons_zero, List.set_cons_succ]
        refine ors_skip (by kernel_rfl) ?_
        try simp only [Act.put, List.setIfInBounds_toArray, List.set_cons_zero, List.set_cons_succ]
        refine ors_skip (by kernel_rfl) ?_
        try simp only [Act.put, List.setIfInBounds_toArray, List.set_cons_zero, List.set_cons_succ]
        refine ors_pass (by kernel_rfl) (Below.refl _ _) ?_
        try simp only [Act.put, List.setIfInBounds_toArray, List.set_cons_zero, List.set_cons_succ]
        refine ors_skip (by kernel_rfl) ?_
        try simp only [Act.put, List.setIfInBounds_toArray, List.set_cons_zero, List.set_cons_succ]
        refine ors_pure (v := ?_) (by kernel_rfl) ?_ ?_
        rotate_left
        · intro w' hv; clear hv; go_simp; try with_reducible rfl
        try simp only [Act.put, List.setIfInBounds_toArray, List.set_cons_zero, List.set_cons_succ]
        refine ors_nil ?_
        go_wp2_with fail
        go_ret
        exact ⟨by rw [HNE.out (fun e => hd (congrArg (fun z : Lk => z.2.1) e))]; rfl, HB2.out⟩
      subst hd
      by_cases hs : sa = sb
      case neg =>
        refine wp_region_ors (fun w' => Below w.heap.size wr.drew w') [(0, true), (1, true), (2, true), (3, true), (4, true), (5, true), (6, true), (7, true), (8, true), (9, true), (10, true), (11, true), (12, true), (13, true), (14, true), (15, true), (16, true), (17, true), (18, true), (19, true), (20, true), (21, true), (22, true), (23, true), (24, true), (25, true), (26, true), (27, true), (28, true), (29, true), (30, true), (31, true), (32, true), (33, true), (34, true), (35, true), (36, true), (37, true), (38, true), (39, true), (40, true), (41, true), (42, true), (43, true), (44, true), (45, true), (46, true), (47, true), (48, false), (49, true), (50, true)] (by kernel_rfl) (by kernel_rfl) (by kernel_rfl) (Below.refl _ _) ?_
        have HB2 := Lib.hid HB.out.drew
        generalize wr.drew = wd at *
        simp only [pickOrs, List.getElem?_cons_zero, List.getElem?_cons_succ]
        refine ors_pure (v := ?_) (by kernel_rfl) ?_ ?_
        rotate_left
        · intro w' hv; clear hv; go_simp; try with_reducible rfl
        try simp only [Act.put, List.setIfInBounds_toArray, List.set_cons_zero, List.set_cons_succ]
        refine ors_pure (v := ?_) (by kernel_rfl) ?_ ?_
        rotate_left
        · intro w' hv; clear hv; go_simp; try with_reducible rfl
        try simp only [Act.put, List.setIfInBounds_toArray, List.set_cons_zero, List.set_cons_succ]
        refine ors_pure (v := ?_) (by kernel_rfl) ?_ ?_
        rotate_left
        · intro w' hv; clear hv; go_simp; try with_reducible rfl
        try simp only [Act.put, List.setIfInBounds_toArray, List.set_cons_zero, List.set_cons_succ]
        refine ors_pure (v := ?_) (by kernel_rfl) ?_ ?_
        rotate_left
        · intro w' hv; clear hv; go_simp; try with_reducible rfl
        try simp only [Act.put, List.setIfInBounds_toArray, List.set_cons_zero, List.set_cons_succ]
        refine ors_pure (v := ?_) (by kernel_rfl) ?_ ?_
        rotate_left
        · intro w' hv; have c0 := HA0.out w' hv; clear hv; go_simp; try with_reducible rfl
        try simp only [Act.put, List.setIfInBounds_toArray, List.set_cons_zero, List.set_cons_succ]
        refine ors_pure (v := ?_) (by kernel_rfl) ?_ ?_
        rotate_left
        · intro w' hv; clear hv; go_simp; try with_reducible rfl
        try simp only [Act.put, List.setIfInBounds_toArray, List.set_cons_zero, List.set_cons_succ]
        refine ors_pure (v := ?_) (by kernel_rfl) ?_ ?_
        rotate_left
        · intro w' hv; clear hv; go_simp; try with_reducible rfl
        try simp only [Act.put, List.setIfInBounds_toArray, List.set_cons_zero, List.set_cons_succ]
        refine ors_pure (v := ?_) (by kernel_rfl) ?_ ?_
        rotate_left
        · intro w' hv; clear hv; go_simp; try with_reducible rfl
        try simp only [Act.put, List.setIfInBounds_toArray, List.set_cons_zero, List.set_cons_succ]
        refine ors_pure (v := ?_) (by kernel_rfl) ?_ ?_
        rotate_left
        · intro w' hv; clear hv; go_simp; try with_reducible rfl
        try simp only [Act.put, List.setIfInBounds_toArray, List.set_cons_zero, List.set_cons_succ]
        refine ors_pure (v := ?_) (by kernel_rfl) ?_ ?_
        rotate_left
        · intro w' hv; have c0 := HB0.out w' hv; clear hv; go_simp; try with_reducible rfl
        try simp only [Act.put, List.setIfInBounds_toArray, List.set_cons_zero, List.set_cons_succ]
        refine ors_pure (v := ?_) (by kernel_rfl) ?_ ?_
        rotate_left
        · intro w' hv; clear hv; go_simp; try with_reducible rfl
        try simp only [Act.put, List.setIfInBounds_toArray, List.set_cons_zero, List.set_cons_succ]
        refine ors_pure (v := ?_) (by kernel_rfl) ?_ ?_
        rotate_left
        · intro w' hv; clear hv; go_simp; try with_reducible rfl
        try simp only [Act.put, List.setIfInBounds_toArray, List.set_cons_zero, List.set_cons_succ]
        refine ors_pure (v := ?_) (by kernel_rfl) ?_ ?_
        rotate_left
        · intro w' hv; clear hv; go_simp; try with_reducible rfl
        try simp only [Act.put, List.setIfInBounds_toArray, List.set_cons_zero, List.set_cons_succ]
        refine ors_pure (v := ?_) (by kernel_rfl) ?_ ?_
        rotate_left
        · intro w' hv; clear hv; go_simp; try with_reducible rfl
        try simp only [Act.put, List.setIfInBounds_toArray, List.set_cons_zero, List.set_cons_succ]
        refine ors_pure (v := ?_) (by kernel_rfl) ?_ ?_
        rotate_left
        · intro w' hv; clear hv; go_simp; try with_reducible rfl
        try simp only [Act.put, List.setIfInBounds_toArray, List.set_cons_zero, List.set_cons_succ]
        refine ors_pure (v := ?_) (by kernel_rfl) ?_ ?_
        rotate_left
        · intro w' hv; clear hv; go_simp; try with_reducible rfl
        try simp only [Act.put, List.setIfInBounds_toArray, List.set_cons_zero, List.set_cons_succ]
        refine ors_pure (v := ?_) (by kernel_rfl) ?_ ?_
        rotate_left
        · intro w' hv; have c1 := HA1.out w' hv; clear hv; go_simp; try with_reducible rfl
        try simp only [Act.put, List.setIfInBounds_toArray, List.set_cons_zero, List.set_cons_succ]
        refine ors_pure (v := ?_) (by kernel_rfl) ?_ ?_
        rotate_left
        · intro w' hv; clear hv; go_simp; try with_reducible rfl
        try simp only [Act.put, List.setIfInBounds_toArray, List.set_cons_zero, List.set_cons_succ]
        refine ors_pure (v := ?_) (by kernel_rfl) ?_ ?_
        rotate_left
        · intro w' hv; clear hv; go_simp; try with_reducible rfl
        try simp only [Act.put, List.setIfInBounds_toArray, List.set_cons_zero, List.set_cons_succ]
        refine ors_pure (v := ?_) (by kernel_rfl) ?_ ?_
        rotate_left
        · intro w' hv; clear hv; go_simp; try with_reducible rfl
        try simp only [Act.put, List.setIfInBounds_toArray, List.set_cons_zero, List.set_cons_succ]
        refine ors_pure (v := ?_) (by kernel_rfl) ?_ ?_
        rotate_left
        · intro w' hv; clear hv; go_simp; try with_reducible rfl
        try simp only [Act.put, List.setIfInBounds_toArray, List.set_cons_zero, List.set_cons_succ]
        refine ors_pure (v := ?_) (by kernel_rfl) ?_ ?_
        rotate_left
        · intro w' hv; have c1 := HB1.out w' hv; clear hv; go_simp; try with_reducible rfl
        try simp only [Act.put, List.setIfInBounds_toArray, List.set_cons_zero, List.set_cons_succ]
        refine ors_pure (v := ?_) (by kernel_rfl) ?_ ?_
        rotate_left
        · intro w' hv; clear hv; go_simp; try with_reducible rfl
        try simp only [Act.put, List.setIfInBounds_toArray, List.set_cons_zero, List.set_cons_succ]
        refine ors_pure (v := ?_) (by kernel_rfl) ?_ ?_
        rotate_left
        · intro w' hv; clear hv; go_simp; try with_reducible rfl
        try simp only [Act.put, List.setIfInBounds_toArray, List.set_cons_zero, List.set_cons_succ]
        refine ors_pure (v := ?_) (by kernel_rfl) ?_ ?_
        rotate_left
        · intro w' hv; clear hv; go_simp; try with_reducible rfl
        try simp only [Act.put, List.setIfInBounds_toArray, List.set_cons_zero, List.set_cons_succ]
        refine ors_pure (v := ?_) (by kernel_rfl) ?_ ?_
        rotate_left
        · intro w' hv; clear hv; go_simp; try with_reducible rfl
        try simp only [Act.put, List.setIfInBounds_toArray, List.set_cons_zero, List.set_cons_succ]
        refine ors_pure (v := ?_) (by kernel_rfl) ?_ ?_
        rotate_left
        · intro w' hv; clear hv; go_simp; try with_reducible rfl
        try simp only [Act.put, List.setIfInBounds_toArray, List.set_cons_zero, List.set_cons_succ]
        refine ors_pure (v := ?_) (by kernel_rfl) ?_ ?_
        rotate_left
        · intro w' hv; clear hv; go_simp; try with_reducible rfl
        try simp only [Act.put, List.setIfInBounds_toArray, List.set_cons_zero, List.set_cons_succ]
        refine ors_pure (v := ?_) (by kernel_rfl) ?_ ?_
        rotate_left
        · intro w' hv; clear hv; go_simp; try with_reducible rfl
        try simp only [Act.put, List.setIfInBounds_toArray, List.set_cons_zero, List.set_cons_succ]
        refine ors_pure (by kernel_rfl) (fun w' hv => load_su 72 (.tmp 45) rfl _ rfl elRef.2.1 szRef sa (HAU.out _ hv)) ?_
        try simp only [Act.put, List.setIfInBounds_toArray, List.set_cons_zero, List.set_cons_succ]
        refine ors_pure (v := ?_) (by kernel_rfl) ?_ ?_
        rotate_left
        · intro w' hv; clear hv; go_simp; try with_reducible rfl
        try simp only [Act.put, List.setIfInBounds_toArray, List.set_cons_zero, List.set_cons_succ]
        refine ors_pure (v := ?_) (by kernel_rfl) ?_ ?_
        rotate_left
        · intro w' hv; clear hv; go_simp; try with_reducible rfl
        try simp only [Act.put, List.setIfInBounds_toArray, List.set_cons_zero, List.set_cons_succ]
        refine ors_pure (v := ?_) (by kernel_rfl) ?_ ?_
        rotate_left
        · intro w' hv; clear hv; go_simp; try with_reducible rfl
        try simp only [Act.put, List.setIfInBounds_toArray, List.set_cons_zero, List.set_cons_succ]
        refine ors_pure (v := ?_) (by kernel_rfl) ?_ ?_
        rotate_left
        · intro w' hv; clear hv; go_simp; try with_reducible rfl
        try simp only [Act.put, List.setIfInBounds_toArray, List.set_cons_zero, List.set_cons_succ]
        refine ors_pure (by kernel_rfl) (fun w' hv => load_su 72 (.tmp 50) rfl _ rfl elRef.2.1 szRef sb (HBU.out _ hv)) ?_
        try simp only [Act.put, List.setIfInBounds_toArray, List.set_cons_zero, List.set_cons_succ]
        refine ors_pure (by kernel_rfl) (fun w' hv => neq_su 72 (.tmp 46) (.tmp 51) _ rfl sa sb rfl rfl elRef.2.1 gdSumR) ?_
        try simp only [Act.put, List.setIfInBounds_toArray, List.set_cons_zero, List.set_cons_succ]
        rw [decide_eq_false hs]
        refine ors_pure (v := ?_) (by kernel_rfl) ?_ ?_
        rotate_left
        · intro w' hv; clear hv; go_simp; try with_reducible rfl
        try simp only [Act.put, List.setIfInBounds_toArray, List.set_cons_zero, List.set_cons_succ]
        refine ors_pure (v := ?_) (by kernel_rfl) ?_ ?_
        rotate_left
        · intro w' hv; clear hv; go_simp; try with_reducible rfl
        try simp only [Act.put, List.setIfInBounds_toArray, List.set_cons_zero, List.set_cons_succ]
        refine ors_skip (by kernel_rfl) ?_
        try simp only [Act.put, List.setIfInBounds_toArray, List.set_cons_zero, List.set_cons_succ]
        refine ors_skip (by kernel_rfl) ?_
        try simp only [Act.put, List.setIfInBounds_toArray, List.set_cons_zero, List.set_cons_succ]
        refine ors_skip (by kernel_rfl) ?_
        try simp only [Act.put, List.setIfInBounds_toArray, List.set_cons_zero, List.set_cons_succ]
        refine ors_skip (by kernel_rfl) ?_
        try simp only [Act.put, List.setIfInBounds_toArray, List.set_cons_zero, List.set_cons_succ]
        refine ors_skip (by kernel_rfl) ?_
        try simp only [Act.put, List.setIfInBounds_toArray, List.set_cons_zero, List.set_cons_succ]
        refine ors_skip (by kernel_rfl) ?_
        try simp only [Act.put, List.setIfInBounds_toArray, List.set_cons_zero, List.set_cons_succ]
        refine ors_skip (by kernel_rfl) ?_
        try simp only [Act.put, List.setIfInBounds_toArray, List.set_cons_zero, List.set_cons_succ]
        refine ors_skip (by kernel_rfl) ?_
        try simp only [Act.put, List.setIfInBounds_toArray, List.set_cons_zero, List.set_cons_succ]
        refine ors_skip (by kernel_rfl) ?_
        try simp only [Act.put, List.setIfInBounds_toArray, List.set_cons_zero, List.set_cons_succ]
        refine ors_skip (by kernel_rfl) ?_
        try simp only [Act.put, List.setIfInBounds_toArray, List.set_cons_zero, List.set_cons_succ]
        refine ors_pass (by kernel_rfl) (Below.refl _ _) ?_
        try simp only [Act.put, List.setIfInBounds_toArray, List.set_cons_zero, List.set_cons_succ]
        refine ors_skip (by kernel_rfl) ?_
        try simp only [Act.put, List.setIfInBounds_toArray, List.set_cons_zero, List.set_cons_succ]
        refine ors_pure (v := ?_) (by kernel_rfl) ?_ ?_
        rotate_left
        · intro w' hv; clear hv; go_simp; try with_reducible rfl
        try simp only [Act.put, List.setIfInBounds_toArray, List.set_cons_zero, List.set_cons_succ]
        refine ors_nil ?_
        go_wp2_with fail
        go_ret
        exact ⟨by rw [HNE.out (fun e => hs (congrArg (fun z : Lk => z.2.2.1) e))]; rfl, HB2.out⟩
      subst hs
      cases hn : decide (Na = Nb)
      case false =>
        refine wp_region_ors (fun w' => Below w.heap.size wr.drew w') [(0, true), (1, true), (2, true), (3, true), (4, true), (5, true), (6, true), (7, true), (8, true), (9, true), (10, true), (11, true), (12, true), (13, true), (14, true), (15, true), (16, true), (17, true), (18, true), (19, true), (20, true), (21, true), (22, true), (23, true), (24, true), (25, true), (26, true), (27, true), (28, true), (29, true), (30, true), (31, true), (32, true), (33, true), (34, true), (35, true), (36, true), (37, true), (38, true), (39, true), (40, true), (41, true), (42, true), (43, true), (44, true), (45, true), (46, true), (47, true), (48, false), (49, true), (50, true)] (by kernel_rfl) (by kernel_rfl) (by kernel_rfl) (Below.refl _ _) ?_
        have HB2 := Lib.hid HB.out.drew
        generalize wr.drew = wd at *
        simp only [pickOrs, List.getElem?_cons_zero, List.getElem?_cons_succ]
        refine ors_pure (v := ?_) (by kernel_rfl) ?_ ?_
        rotate_left
        · intro w' hv; clear hv; go_simp; try with_reducible rfl
        try simp only [Act.put, List.setIfInBounds_toArray, List.set_cons_zero, List.set_cons_succ]
        refine ors_pure (v := ?_) (by kernel_rfl) ?_ ?_
        rotate_left
        · intro w' hv; clear hv; go_simp; try with_reducible rfl
        try simp only [Act.put, List.setIfInBounds_toArray, List.set_cons_zero, List.set_cons_succ]
        refine ors_pure (v := ?_) (by kernel_rfl) ?_ ?_
        rotate_left
        · intro w' hv; clear hv; go_simp; try with_reducible rfl
        try simp only [Act.put, List.setIfInBounds_toArray, List.set_cons_zero, List.set_cons_succ]
        refine ors_pure (v := ?_) (by kernel_rfl) ?_ ?_
        rotate_left
        · intro w' hv; clear hv; go_simp; try with_reducible rfl
        try simp only [Act.put, List.setIfInBounds_toArray, List.set_cons_zero, List.set_cons_succ]
        refine ors_pure (v := ?_) (by kernel_rfl) ?_ ?_
        rotate_left
        · intro w' hv; have c0 := HA0.out w' hv; clear hv; go_simp; try with_reducible rfl
        try simp only [Act.put, List.setIfInBounds_toArray, List.set_cons_zero, List.set_cons_succ]
        refine ors_pure (v := ?_) (by kernel_rfl) ?_ ?_
        rotate_left
        · intro w' hv; clear hv; go_simp; try with_reducible rfl
        try simp only [Act.put, List.setIfInBounds_toArray, List.set_cons_zero, List.set_cons_succ]
        refine ors_pure (v := ?_) (by kernel_rfl) ?_ ?_
        rotate_left
        · intro w' hv; clear hv; go_simp; try with_reducible rfl
        try simp only [Act.put, List.setIfInBounds_toArray, List.set_cons_zero, List.set_cons_succ]
        refine ors_pure (v := ?_) (by kernel_rfl) ?_ ?_
        rotate_left
        · intro w' hv; clear hv; go_simp; try with_reducible rfl
        try simp only [Act.put, List.setIfInBounds_toArray, List.set_cons_zero, List.set_cons_succ]
        refine ors_pure (v := ?_) (by kernel_rfl) ?_ ?_
        rotate_left
        · intro w' hv; clear hv; go_simp; try with_reducible rfl
        try simp only [Act.put, List.setIfInBounds_toArray, List.set_cons_zero, List.set_cons_succ]
        refine ors_pure (v := ?_) (by kernel_rfl) ?_ ?_
        rotate_left
        · intro w' hv; have c0 := HB0.out w' hv; clear hv; go_simp; try with_reducible rfl
        try simp only [Act.put, List.setIfInBounds_toArray, List.set_cons_zero, List.set_cons_succ]
        refine ors_pure (v := ?_) (by kernel_rfl) ?_ ?_
        rotate_left
        · intro w' hv; clear hv; go_simp; try with_reducible rfl
        try simp only [Act.put, List.setIfInBounds_toArray, List.set_cons_zero, List.set_cons_succ]
        refine ors_pure (v := ?_) (by kernel_rfl) ?_ ?_
        rotate_left
        · intro w' hv; clear hv; go_simp; try with_reducible rfl
        try simp only [Act.put, List.setIfInBounds_toArray, List.set_cons_zero, List.set_cons_succ]
        refine ors_pure (v := ?_) (by kernel_rfl) ?_ ?_
        rotate_left
        · intro w' hv; clear hv; go_simp; try with_reducible rfl
        try simp only [Act.put, List.setIfInBounds_toArray, List.set_cons_zero, List.set_cons_succ]
        refine ors_pure (v := ?_) (by kernel_rfl) ?_ ?_
        rotate_left
        · intro w' hv; clear hv; go_simp; try with_reducible rfl
        try simp only [Act.put, List.setIfInBounds_toArray, List.set_cons_zero, List.set_cons_succ]
        refine ors_pure (v := ?_) (by kernel_rfl) ?_ ?_
        rotate_left
        · intro w' hv; clear hv; go_simp; try with_reducible rfl
        try simp only [Act.put, List.setIfInBounds_toArray, List.set_cons_zero, List.set_cons_succ]
        refine ors_pure (v := ?_) (by kernel_rfl) ?_ ?_
        rotate_left
        · intro w' hv; clear hv; go_simp; try with_reducible rfl
        try simp only [Act.put, List.setIfInBounds_toArray, List.set_cons_zero, List.set_cons_succ]
        refine ors_pure (v := ?_) (by kernel_rfl) ?_ ?_
        rotate_left
        · intro w' hv; have c1 := HA1.out w' hv; clear hv; go_simp; try with_reducible rfl
        try simp only [Act.put, List.setIfInBounds_toArray, List.set_cons_zero, List.set_cons_succ]
        refine ors_pure (v := ?_) (by kernel_rfl) ?_ ?_
        rotate_left
        · intro w' hv; clear hv; go_simp; try with_reducible rfl
        try simp only [Act.put, List.setIfInBounds_toArray, List.set_cons_zero, List.set_cons_succ]
        refine ors_pure (v := ?_) (by kernel_rfl) ?_ ?_
        rotate_left
        · intro w' hv; clear hv; go_simp; try with_reducible rfl
        try simp only [Act.put, List.setIfInBounds_toArray, List.set_cons_zero, List.set_cons_succ]
        refine ors_pure (v := ?_) (by kernel_rfl) ?_ ?_
        rotate_left
        · intro w' hv; clear hv; go_simp; try with_reducible rfl
        try simp only [Act.put, List.setIfInBounds_toArray, List.set_cons_zero, List.set_cons_succ]
        refine ors_pure (v := ?_) (by kernel_rfl) ?_ ?_
        rotate_left
        · intro w' hv; clear hv; go_simp; try with_reducible rfl
        try simp only [Act.put, List.setIfInBounds_toArray, List.set_cons_zero, List.set_cons_succ]
        refine ors_pure (v := ?_) (by kernel_rfl) ?_ ?_
        rotate_left
        · intro w' hv; have c1 := HB1.out w' hv; clear hv; go_simp; try with_reducible rfl
        try simp only [Act.put, List.setIfInBounds_toArray, List.set_cons_zero, List.set_cons_succ]
        refine ors_pure (v := ?_) (by kernel_rfl) ?_ ?_
        rotate_left
        · intro w' hv; clear hv; go_simp; try with_reducible rfl
        try simp only [Act.put, List.setIfInBounds_toArray, List.set_cons_zero, List.set_cons_succ]
        refine ors_pure (v := ?_) (by kernel_rfl) ?_ ?_
        rotate_left
        · intro w' hv; clear hv; go_simp; try with_reducible rfl
        try simp only [Act.put, List.setIfInBounds_toArray, List.set_cons_zero, List.set_cons_succ]
        refine ors_pure (v := ?_) (by kernel_rfl) ?_ ?_
        rotate_left
        · intro w' hv; clear hv; go_simp; try with_reducible rfl
        try simp only [Act.put, List.setIfInBounds_toArray, List.set_cons_zero, List.set_cons_succ]
        refine ors_pure (v := ?_) (by kernel_rfl) ?_ ?_
        rotate_left
        · intro w' hv; clear hv; go_simp; try with_reducible rfl
        try simp only [Act.put, List.setIfInBounds_toArray, List.set_cons_zero, List.set_cons_succ]
        refine ors_pure (v := ?_) (by kernel_rfl) ?_ ?_
        rotate_left
        · intro w' hv; clear hv; go_simp; try with_reducible rfl
        try simp only [Act.put, List.setIfInBounds_toArray, List.set_cons_zero, List.set_cons_succ]
        refine ors_pure (v := ?_) (by kernel_rfl) ?_ ?_
        rotate_left
        · intro w' hv; clear hv; go_simp; try with_reducible rfl
        try simp only [Act.put, List.setIfInBounds_toArray, List.set_cons_zero, List.set_cons_succ]
        refine ors_pure (v := ?_) (by kernel_rfl) ?_ ?_
        rotate_left
        · intro w' hv; clear hv; go_simp; try with_reducible rfl
        try simp only [Act.put, List.setIfInBounds_toArray, List.set_cons_zero, List.set_cons_succ]
        refine ors_pure (by kernel_rfl) (fun w' hv => load_su 72 (.tmp 45) rfl _ rfl elRef.2.1 szRef sa (HAU.out _ hv)) ?_
        try simp only [Act.put, List.setIfInBounds_toArray, List.set_cons_zero, List.set_cons_succ]
        refine ors_pure (v := ?_) (by kernel_rfl) ?_ ?_
        rotate_left
        · intro w' hv; clear hv; go_simp; try with_reducible rfl
        try simp only [Act.put, List.setIfInBounds_toArray, List.set_cons_zero, List.set_cons_succ]
        refine ors_pure (v := ?_) (by kernel_rfl) ?_ ?_
        rotate_left
        · intro w' hv; clear hv; go_simp; try with_reducible rfl
        try simp only [Act.put, List.setIfInBounds_toArray, List.set_cons_zero, List.set_cons_succ]
        refine ors_pure (v := ?_) (by kernel_rfl) ?_ ?_
        rotate_left
        · intro w' hv; clear hv; go_simp; try with_reducible rfl
        try simp only [Act.put, List.setIfInBounds_toArray, List.set_cons_zero, List.set_cons_succ]
        refine ors_pure (v := ?_) (by kernel_rfl) ?_ ?_
        rotate_left
        · intro w' hv; clear hv; go_simp; try with_reducible rfl
        try simp only [Act.put, List.setIfInBounds_toArray, List.set_cons_zero, List.set_cons_succ]
        refine ors_pure (by kernel_rfl) (fun w' hv => load_su 72 (.tmp 50) rfl _ rfl elRef.2.1 szRef sa (HBU.out _ hv)) ?_
        try simp only [Act.put, List.setIfInBounds_toArray, List.set_cons_zero, List.set_cons_succ]
        refine ors_pure (by kernel_rfl) (fun w' hv => neq_su 72 (.tmp 46) (.tmp 51) _ rfl sa sa rfl rfl elRef.2.1 gdSumR) ?_
        try simp only [Act.put, List.setIfInBounds_toArray, List.set_cons_zero, List.set_cons_succ]
        refine ors_pure (v := ?_) (by kernel_rfl) ?_ ?_
        rotate_left
        · intro w' hv; clear hv; go_simp; try with_reducible rfl
        try simp only [Act.put, List.setIfInBounds_toArray, List.set_cons_zero, List.set_cons_succ]
        refine ors_pure (v := ?_) (by kernel_rfl) ?_ ?_
        rotate_left
        · intro w' hv; clear hv; go_simp; try with_reducible rfl
        try simp only [Act.put, List.setIfInBounds_toArray, List.set_cons_zero, List.set_cons_succ]
        refine ors_pure (v := ?_) (by kernel_rfl) ?_ ?_
        rotate_left
        · intro w' hv; clear hv; go_simp; try with_reducible rfl
        try simp only [Act.put, List.setIfInBounds_toArray, List.set_cons_zero, List.set_cons_succ]
        refine ors_pure (v := ?_) (by kernel_rfl) ?_ ?_
        rotate_left
        · intro w' hv; clear hv; go_simp; try with_reducible rfl
        try simp only [Act.put, List.setIfInBounds_toArray, List.set_cons_zero, List.set_cons_succ]
        refine ors_pure (v := ?_) (by kernel_rfl) ?_ ?_
        rotate_left
        · intro w' hv; clear hv; go_simp; try with_reducible rfl
        try simp only [Act.put, List.setIfInBounds_toArray, List.set_cons_zero, List.set_cons_succ]
        refine ors_pure (v := ?_) (by kernel_rfl) ?_ ?_
        rotate_left
        · intro w' hv; clear hv; go_simp; try with_reducible rfl
        try simp only [Act.put, List.setIfInBounds_toArray, List.set_cons_zero, List.set_cons_succ]
        refine ors_pure (v := ?_) (by kernel_rfl) ?_ ?_
        rotate_left
        · intro w' hv; have c34 := HA34.out w' hv; clear hv; go_simp; try with_reducible rfl
        try simp only [Act.put, List.setIfInBounds_toArray, List.set_cons_zero, List.set_cons_succ]
        refine ors_pure (v := ?_) (by kernel_rfl) ?_ ?_
        rotate_left
        · intro w' hv; clear hv; go_simp; try with_reducible rfl
        try simp only [Act.put, List.setIfInBounds_toArray, List.set_cons_zero, List.set_cons_succ]
        refine ors_pure (v := ?_) (by kernel_rfl) ?_ ?_
        rotate_left
        · intro w' hv; clear hv; go_simp; try with_reducible rfl
        try simp only [Act.put, List.setIfInBounds_toArray, List.set_cons_zero, List.set_cons_succ]
        refine ors_pure (v := ?_) (by kernel_rfl) ?_ ?_
        rotate_left
        · intro w' hv; clear hv; go_simp; try with_reducible rfl
        try simp only [Act.put, List.setIfInBounds_toArray, List.set_cons_zero, List.set_cons_succ]
        refine ors_pure (v := ?_) (by kernel_rfl) ?_ ?_
        rotate_left
        · intro w' hv; clear hv; go_simp; try with_reducible rfl
        try simp only [Act.put, List.setIfInBounds_toArray, List.set_cons_zero, List.set_cons_succ]
        refine ors_pure (v := ?_) (by kernel_rfl) ?_ ?_
        rotate_left
        · intro w' hv; have c34 := HB34.out w' hv; clear hv; go_simp; try with_reducible rfl
        try simp only [Act.put, List.setIfInBounds_toArray, List.set_cons_zero, List.set_cons_succ]
        refine ors_step (by kernel_rfl) (fun K hK => ?_)
        go_wp2_with fail
        refine Calls.mono (HSM.out wd HB2.out) ?_
        rintro e w3 ⟨rfl, hb⟩
        have HB3 := Lib.hid (HB2.out.trans (hb.mono HB2.out.size))
        rw [hn]
        refine hK _ _ ⟨hb.mono HB2.out.size, ?_⟩
        clear hK
        try simp only [Act.put, List.setIfInBounds_toArray, List.set_cons_zero, List.set_cons_succ]
        refine ors_pure (v := ?_) (by kernel_rfl) ?_ ?_
        rotate_left
        · intro w' hv; clear hv; go_simp; try with_reducible rfl
        try simp only [Act.put, List.setIfInBounds_toArray, List.set_cons_zero, List.set_cons_succ]
        refine ors_pure (v := ?_) (by kernel_rfl) ?_ ?_
        rotate_left
        · intro w' hv; clear hv; go_simp; try with_reducible rfl
        try simp only [Act.put, List.setIfInBounds_toArray, List.set_cons_zero, List.set_cons_succ]
        refine ors_nil ?_
        go_wp2_with fail
        go_ret
        exact ⟨by rw [HNE.out (fun e => of_decide_eq_false hn (congrArg (fun z : Lk => z.2.2.2) e))]; rfl, HB3.out⟩
      case true =>
        refine wp_region_ors (fun w' => Below w.heap.size wr.drew w') [(0, true), (1, true), (2, true), (3, true), (4, true), (5, true), (6, true), (7, true), (8, true), (9, true), (10, true), (11, true), (12, true), (13, true), (14, true), (15, true), (16, true), (17, true), (18, true), (19, true), (20, true), (21, true), (22, true), (23, true), (24, true), (25, true), (26, true), (27, true), (28, true), (29, true), (30, true), (31, true), (32, true), (33, true), (34, true), (35, true), (36, true), (37, true), (38, true), (39, true), (40, true), (41, true), (42, true), (43, true), (44, true), (45, true), (46, true), (47, true), (48, false), (49, true), (50, true)] (by kernel_rfl) (by kernel_rfl) (by kernel_rfl) (Below.refl _ _) ?_
        have HB2 := Lib.hid HB.out.drew
        generalize wr.drew = wd at *
        simp only [pickOrs, List.getElem?_cons_zero, List.getElem?_cons_succ]
        refine ors_pure (v := ?_) (by kernel_rfl) ?_ ?_
        rotate_left
        · intro w' hv; clear hv; go_simp; try with_reducible rfl
        try simp only [Act.put, List.setIfInBounds_toArray, List.set_cons_zero, List.set_cons_succ]
        refine ors_pure (v := ?_) (by kernel_rfl) ?_ ?_
        rotate_left
        · intro w' hv; clear hv; go_simp; try with_reducible rfl
        try simp only [Act.put, List.setIfInBounds_toArray, List.set_cons_zero, List.set_cons_succ]
        refine ors_pure (v := ?_) (by kernel_rfl) ?_ ?_
        rotate_left
        · intro w' hv; clear hv; go_simp; try with_reducible rfl
        try simp only [Act.put, List.setIfInBounds_toArray, List.set_cons_zero, List.set_cons_succ]
        refine ors_pure (v := ?_) (by kernel_rfl) ?_ ?_
        rotate_left
        · intro w' hv; clear hv; go_simp; try with_reducible rfl
        try simp only [Act.put, List.setIfInBounds_toArray, List.set_cons_zero, List.set_cons_succ]
        refine ors_pure (v := ?_) (by kernel_rfl) ?_ ?_
        rotate_left
        · intro w' hv; have c0 := HA0.out w' hv; clear hv; go_simp; try with_reducible rfl
        try simp only [Act.put, List.setIfInBounds_toArray, List.set_cons_zero, List.set_cons_succ]
        refine ors_pure (v := ?_) (by kernel_rfl) ?_ ?_
        rotate_left
        · intro w' hv; clear hv; go_simp; try with_reducible rfl
        try simp only [Act.put, List.setIfInBounds_toArray, List.set_cons_zero, List.set_cons_succ]
        refine ors_pure (v := ?_) (by kernel_rfl) ?_ ?_
        rotate_left
        · intro w' hv; clear hv; go_simp; try with_reducible rfl
        try simp only [Act.put, List.setIfInBounds_toArray, List.set_cons_zero, List.set_cons_succ]
        refine ors_pure (v := ?_) (by kernel_rfl) ?_ ?_
        rotate_left
        · intro w' hv; clear hv; go_simp; try with_reducible rfl
        try simp only [Act.put, List.setIfInBounds_toArray, List.set_cons_zero, List.set_cons_succ]
        refine ors_pure (v := ?_) (by kernel_rfl) ?_ ?_
        rotate_left
        · intro w' hv; clear hv; go_simp; try with_reducible rfl
        try simp only [Act.put, List.setIfInBounds_toArray, List.set_cons_zero, List.set_cons_succ]
        refine ors_pure (v := ?_) (by kernel_rfl) ?_ ?_
        rotate_left
        · intro w' hv; have c0 := HB0.out w' hv; clear hv; go_simp; try with_reducible rfl
        try simp only [Act.put, List.setIfInBounds_toArray, List.set_cons_zero, List.set_cons_succ]
        refine ors_pure (v := ?_) (by kernel_rfl) ?_ ?_
        rotate_left
        · intro w' hv; clear hv; go_simp; try with_reducible rfl
        try simp only [Act.put, List.setIfInBounds_toArray, List.set_cons_zero, List.set_cons_succ]
        refine ors_pure (v := ?_) (by kernel_rfl) ?_ ?_
        rotate_left
        · intro w' hv; clear hv; go_simp; try with_reducible rfl
        try simp only [Act.put, List.setIfInBounds_toArray, List.set_cons_zero, List.set_cons_succ]
        refine ors_pure (v := ?_) (by kernel_rfl) ?_ ?_
        rotate_left
        · intro w' hv; clear hv; go_simp; try with_reducible rfl
        try simp only [Act.put, List.setIfInBounds_toArray, List.set_cons_zero, List.set_cons_succ]
        refine ors_pure (v := ?_) (by kernel_rfl) ?_ ?_
        rotate_left
        · intro w' hv; clear hv; go_simp; try with_reducible rfl
        try simp only [Act.put, List.setIfInBounds_toArray, List.set_cons_zero, List.set_cons_succ]
        refine ors_pure (v := ?_) (by kernel_rfl) ?_ ?_
        rotate_left
        · intro w' hv; clear hv; go_simp; try with_reducible rfl
        try simp only [Act.put, List.setIfInBounds_toArray, List.set_cons_zero, List.set_cons_succ]
        refine ors_pure (v := ?_) (by kernel_rfl) ?_ ?_
        rotate_left
        · intro w' hv; clear hv; go_simp; try with_reducible rfl
        try simp only [Act.put, List.setIfInBounds_toArray, List.set_cons_zero, List.set_cons_succ]
        refine ors_pure (v := ?_) (by kernel_rfl) ?_ ?_
        rotate_left
        · intro w' hv; have c1 := HA1.out w' hv; clear hv; go_simp; try with_reducible rfl
        try simp only [Act.put, List.setIfInBounds_toArray, List.set_cons_zero, List.set_cons_succ]
        refine ors_pure (v := ?_) (by kernel_rfl) ?_ ?_
        rotate_left
        · intro w' hv; clear hv; go_simp; try with_reducible rfl
        try simp only [Act.put, List.setIfInBounds_toArray, List.set_cons_zero, List.set_cons_succ]
        refine ors_pure (v := ?_) (by kernel_rfl) ?_ ?_
        rotate_left
        · intro w' hv; clear hv; go_simp; try with_reducible rfl
        try simp only [Act.put, List.setIfInBounds_toArray, List.set_cons_zero, List.set_cons_succ]
        refine ors_pure (v := ?_) (by kernel_rfl) ?_ ?_
        rotate_left
        · intro w' hv; clear hv; go_simp; try with_reducible rfl
        try simp only [Act.put, List.setIfInBounds_toArray, List.set_cons_zero, List.set_cons_succ]
        refine ors_pure (v := ?_) (by kernel_rfl) ?_ ?_
        rotate_left
        · intro w' hv; clear hv; go_simp; try with_reducible rfl
        try simp only [Act.put, List.setIfInBounds_toArray, List.set_cons_zero, List.set_cons_succ]
        refine ors_pure (v := ?_) (by kernel_rfl) ?_ ?_
        rotate_left
        · intro w' hv; have c1 := HB1.out w' hv; clear hv; go_simp; try with_reducible rfl
        try simp only [Act.put, List.setIfInBounds_toArray, List.set_cons_zero, List.set_cons_succ]
        refine ors_pure (v := ?_) (by kernel_rfl) ?_ ?_
        rotate_left
        · intro w' hv; clear hv; go_simp; try with_reducible rfl
        try simp only [Act.put, List.setIfInBounds_toArray, List.set_cons_zero, List.set_cons_succ]
        refine ors_pure (v := ?_) (by kernel_rfl) ?_ ?_
        rotate_left
        · intro w' hv; clear hv; go_simp; try with_reducible rfl
        try simp only [Act.put, List.setIfInBounds_toArray, List.set_cons_zero, List.set_cons_succ]
        refine ors_pure (v := ?_) (by kernel_rfl) ?_ ?_
        rotate_left
        · intro w' hv; clear hv; go_simp; try with_reducible rfl
        try simp only [Act.put, List.setIfInBounds_toArray, List.set_cons_zero, List.set_cons_succ]
        refine ors_pure (v := ?_) (by kernel_rfl) ?_ ?_
        rotate_left
        · intro w' hv; clear hv; go_simp; try with_reducible rfl
        try simp only [Act.put, List.setIfInBounds_toArray, List.set_cons_zero, List.set_cons_succ]
        refine ors_pure (v := ?_) (by kernel_rfl) ?_ ?_
        rotate_left
        · intro w' hv; clear hv; go_simp; try with_reducible rfl
        try simp only [Act.put, List.setIfInBounds_toArray, List.set_cons_zero, List.set_cons_succ]
        refine ors_pure (v := ?_) (by kernel_rfl) ?_ ?_
        rotate_left
        · intro w' hv; clear hv; go_simp; try with_reducible rfl
        try simp only [Act.put, List.setIfInBounds_toArray, List.set_cons_zero, List.set_cons_succ]
        refine ors_pure (v := ?_) (by kernel_rfl) ?_ ?_
        rotate_left
        · intro w' hv; clear hv; go_simp; try with_reducible rfl
        try simp only [Act.put, List.setIfInBounds_toArray, List.set_cons_zero, List.set_cons_succ]
        refine ors_pure (by kernel_rfl) (fun w' hv => load_su 72 (.tmp 45) rfl _ rfl elRef.2.1 szRef sa (HAU.out _ hv)) ?_
        try simp only [Act.put, List.setIfInBounds_toArray, List.set_cons_zero, List.set_cons_succ]
        refine ors_pure (v := ?_) (by kernel_rfl) ?_ ?_
        rotate_left
        · intro w' hv; clear hv; go_simp; try with_reducible rfl
        try simp only [Act.put, List.setIfInBounds_toArray, List.set_cons_zero, List.set_cons_succ]
        refine ors_pure (v := ?_) (by kernel_rfl) ?_ ?_
        rotate_left
        · intro w' hv; clear hv; go_simp; try with_reducible rfl
        try simp only [Act.put, List.setIfInBounds_toArray, List.set_cons_zero, List.set_cons_succ]
        refine ors_pure (v := ?_) (by kernel_rfl) ?_ ?_
        rotate_left
        · intro w' hv; clear hv; go_simp; try with_reducible rfl
        try simp only [Act.put, List.setIfInBounds_toArray, List.set_cons_zero, List.set_cons_succ]
        refine ors_pure (v := ?_) (by kernel_rfl) ?_ ?_
        rotate_left
        · intro w' hv; clear hv; go_simp; try with_reducible rfl
        try simp only [Act.put, List.setIfInBounds_toArray, List.set_cons_zero, List.set_cons_succ]
        refine ors_pure (by kernel_rfl) (fun w' hv => load_su 72 (.tmp 50) rfl _ rfl elRef.2.1 szRef sa (HBU.out _ hv)) ?_
        try simp only [Act.put, List.setIfInBounds_toArray, List.set_cons_zero, List.set_cons_succ]
        refine ors_pure (by kernel_rfl) (fun w' hv => neq_su 72 (.tmp 46) (.tmp 51) _ rfl sa sa rfl rfl elRef.2.1 gdSumR) ?_
        try simp only [Act.put, List.setIfInBounds_toArray, List.set_cons_zero, List.set_cons_succ]
        refine ors_pure (v := ?_) (by kernel_rfl) ?_ ?_
        rotate_left
        · intro w' hv; clear hv; go_simp; try with_reducible rfl
        try simp only [Act.put, List.setIfInBounds_toArray, List.set_cons_zero, List.set_cons_succ]
        refine ors_pure (v := ?_) (by kernel_rfl) ?_ ?_
        rotate_left
        · intro w' hv; clear hv; go_simp; try with_reducible rfl
        try simp only [Act.put, List.setIfInBounds_toArray, List.set_cons_zero, List.set_cons_succ]
        refine ors_pure (v := ?_) (by kernel_rfl) ?_ ?_
        rotate_left
        · intro w' hv; clear hv; go_simp; try with_reducible rfl
        try simp only [Act.put, List.setIfInBounds_toArray, List.set_cons_zero, List.set_cons_succ]
        refine ors_pure (v := ?_) (by kernel_rfl) ?_ ?_
        rotate_left
        · intro w' hv; clear hv; go_simp; try with_reducible rfl
        try simp only [Act.put, List.setIfInBounds_toArray, List.set_cons_zero, List.set_cons_succ]
        refine ors_pure (v := ?_) (by kernel_rfl) ?_ ?_
        rotate_left
        · intro w' hv; clear hv; go_simp; try with_reducible rfl
        try simp only [Act.put, List.setIfInBounds_toArray, List.set_cons_zero, List.set_cons_succ]
        refine ors_pure (v := ?_) (by kernel_rfl) ?_ ?_
        rotate_left
        · intro w' hv; clear hv; go_simp; try with_reducible rfl
        try simp only [Act.put, List.setIfInBounds_toArray, List.set_cons_zero, List.set_cons_succ]
        refine ors_pure (v := ?_) (by kernel_rfl) ?_ ?_
        rotate_left
        · intro w' hv; have c34 := HA34.out w' hv; clear hv; go_simp; try with_reducible rfl
        try simp only [Act.put, List.setIfInBounds_toArray, List.set_cons_zero, List.set_cons_succ]
        refine ors_pure (v := ?_) (by kernel_rfl) ?_ ?_
        rotate_left
        · intro w' hv; clear hv; go_simp; try with_reducible rfl
        try simp only [Act.put, List.setIfInBounds_toArray, List.set_cons_zero, List.set_cons_succ]
        refine ors_pure (v := ?_) (by kernel_rfl) ?_ ?_
        rotate_left
        · intro w' hv; clear hv; go_simp; try with_reducible rfl
        try simp only [Act.put, List.setIfInBounds_toArray, List.set_cons_zero, List.set_cons_succ]
        refine ors_pure (v := ?_) (by kernel_rfl) ?_ ?_
        rotate_left
        · intro w' hv; clear hv; go_simp; try with_reducible rfl
        try simp only [Act.put, List.setIfInBounds_toArray, List.set_cons_zero, List.set_cons_succ]
        refine ors_pure (v := ?_) (by kernel_rfl) ?_ ?_
        rotate_left
        · intro w' hv; clear hv; go_simp; try with_reducible rfl
        try simp only [Act.put, List.setIfInBounds_toArray, List.set_cons_zero, List.set_cons_succ]
        refine ors_pure (v := ?_) (by kernel_rfl) ?_ ?_
        rotate_left
        · intro w' hv; have c34 := HB34.out w' hv; clear hv; go_simp; try with_reducible rfl
        try simp only [Act.put, List.setIfInBounds_toArray, List.set_cons_zero, List.set_cons_succ]
        refine ors_step (by kernel_rfl) (fun K hK => ?_)
        go_wp2_with fail
        refine Calls.mono (HSM.out wd HB2.out) ?_
        rintro e w3 ⟨rfl, hb⟩
        have HB3 := Lib.hid (HB2.out.trans (hb.mono HB2.out.size))
        rw [hn]
        refine hK _ _ ⟨hb.mono HB2.out.size, ?_⟩
        clear hK
        try simp only [Act.put, List.setIfInBounds_toArray, List.set_cons_zero, List.set_cons_succ]
        refine ors_pure (v := ?_) (by kernel_rfl) ?_ ?_
        rotate_left
        · intro w' hv; clear hv; go_simp; try with_reducible rfl
        try simp only [Act.put, List.setIfInBounds_toArray, List.set_cons_zero, List.set_cons_succ]
        refine ors_pure (v := ?_) (by kernel_rfl) ?_ ?_
        rotate_left
        · intro w' hv; clear hv; go_simp; try with_reducible rfl
        try simp only [Act.put, List.setIfInBounds_toArray, List.set_cons_zero, List.set_cons_succ]
        refine ors_nil ?_
        go_wp2_with fail
        go_roundw
        case rel => exact ⟨j + 1, by omega, by go_num, by rw [HTA.out, HTB.out, HKEY.out]; have := of_decide_eq_true hn; subst this; rfl, HB3.out⟩
        case measure => simp [intOf]; omega
    · have hjl : j = A.length := by omega
      subst hjl
      have kk : ¬ ((A.length : Int) < (A.length : Int)) := by omega
      have hk := HKEY.out
      rw [List.take_length, HLN.out, List.take_length] at hk
      have hv : V = true := HV.out.2 hk
      subst hv
      clear hk
      go_wp2_with fail
      go_ret
      exact ⟨rfl, HB.out⟩
end Go.Proofs.YtmjonlffhhehjaaGreatDoor
/- Contracts: the law's own some and awake. Condition: the sums' tables are laid. -/
namespace Go.Proofs.YtmjonlffhhehjaaGreatDoor
open Go.RowKit
def tH : List (BitVec 8) := [104#8, 101#8, 108#8, 108#8, 111#8]
def tHv : Array Value := #[.int .u8 104, .int .u8 101, .int .u8 108, .int .u8 108, .int .u8 111]
theorem tH_eq : tHv = (tH.map u8v).toArray := by kernel_rfl
theorem tH_cut : cutP tH = [(shaU tH, tH)] := by kernel_rfl
theorem tH_names : namesU tH = [shaU tH] := by unfold namesU; rw [tH_cut]; rfl
theorem tH_join (v : Value) : joinA [(shaU tH, v, tH)] [shaU tH] [] = (tH, 0) := by
  have hg : goodPc ([(shaU tH, v, tH)] : List Pc)[0] = true := by
    unfold goodPc
    rw [decide_eq_true (show shaU ([(shaU tH, v, tH)] : List Pc)[0].2.2 = ([(shaU tH, v, tH)] : List Pc)[0].1 from rfl)]
    rfl
  have hf : firstU [(shaU tH, v, tH)] (shaU tH) = some 0 := by simp [firstU]
  rw [joinA_good hf (by simp) hg]; rfl
def pA : ByteArray := ⟨#[97]⟩
def pAB : ByteArray := ⟨#[97, 47, 98]⟩
/-- The tree of two. -/
def smT (v : Value) : List Ent := [(pA, true, .slice none 0 0, []), (pAB, false, v, tH)]
theorem smT_good (v : Value) : goodP (smT v) = true := by kernel_rfl
theorem smT_out (v : Value) : cleanP (smT v) = smT v := by
  unfold cleanP
  rw [if_pos (smT_good v)]
  kernel_rfl
def smR : List Lk := [(pA, true, zSu, []), (pAB, false, shaU tH, [shaU tH])]
theorem smT_of (v : Value) : ofP (smT v) = smR := by
  unfold ofP
  rw [if_pos (smT_good v), smT_out]
  show [lineP (pA, true, .slice none 0 0, []), lineP (pAB, false, v, tH)] = smR
  unfold lineP
  rw [if_pos rfl, if_neg (by simp)]
  show [(pA, true, zSu, []), (pAB, false, shaU tH, namesU tH)] = smR
  rw [tH_names]; rfl
theorem smR_good : goodK smR = true := by
  have h := good_of_good (smT_good (.slice none 0 0))
  have e : (cleanP (smT (.slice none 0 0))).map lineP = smR := by
    have := smT_of (.slice none 0 0)
    unfold ofP at this
    rwa [if_pos (smT_good _)] at this
  rwa [e] at h
def smK : List Ek := [(pA, true, []), (pAB, false, tH)]
theorem smK_good : goodE smK = true := by kernel_rfl
theorem sm_bake (v : Value) : bakeP [(shaU tH, v, tH)] smR = (smK, 0) := by
  have h1 : bakeL [(shaU tH, v, tH)] (pA, true, zSu, []) = ([], 0) := rfl
  have h2 : bakeL [(shaU tH, v, tH)] (pAB, false, shaU tH, [shaU tH]) = (tH, 0) := by
    unfold bakeL
    simp only [Bool.false_eq_true, if_false, tH_join, if_true]
  have h3 : smR.map (bakeK [(shaU tH, v, tH)]) = smK := by
    show [((pA : ByteArray), true, (bakeL [(shaU tH, v, tH)] (pA, true, zSu, [])).1), (pAB, false, (bakeL [(shaU tH, v, tH)] (pAB, false, shaU tH, [shaU tH])).1)] = smK
    rw [h1, h2]; rfl
  unfold bakeP
  rw [if_pos smR_good, find_nothing _ (fun x hx => by
    rcases List.mem_cons.1 hx with rfl | hx
    · rw [h1]; rfl
    · rw [List.mem_singleton.1 hx, h2]; rfl)]
  show (if goodE (smR.map (bakeK [(shaU tH, v, tH)])) = true then (smR.map (bakeK [(shaU tH, v, tH)]), 0) else ([], 9)) = (smK, 0)
  rw [h3, if_pos smK_good]
theorem smK_of {T : List Ent} (h : T.map keyE = smK) : ∃ v1 v2, T = [(pA, true, v1, []), (pAB, false, v2, tH)] := by
  rcases T with _ | ⟨a, _ | ⟨b, _ | ⟨c, T⟩⟩⟩
  · have := congrArg List.length h; simp [smK] at this
  · have := congrArg List.length h; simp [smK] at this
  · obtain ⟨a1, a2, a3, a4⟩ := a
    obtain ⟨b1, b2, b3, b4⟩ := b
    injection h with h1 h2
    injection h2 with h2 _
    injection h1 with h11 h12
    injection h12 with h12 h13
    injection h2 with h21 h22
    injection h22 with h22 h23
    have e1 : a1 = pA := h11
    have e2 : a2 = true := h12
    have e3 : a4 = [] := h13
    have e4 : b1 = pAB := h21
    have e5 : b2 = false := h22
    have e6 : b4 = tH := h23
    exact ⟨a3, b3, by rw [e1, e2, e3, e4, e5, e6]⟩
  · have := congrArg List.length h; simp [smK] at this
theorem sm_same (v1 v2 v : Value) : sameT [(pA, true, v1, []), (pAB, false, v2, tH)] (smT v) = true := by kernel_rfl
theorem Bs.offRow {w : World} {g g1 n : Nat} {x : List (BitVec 8)} (h : Bs w (.slice (some ⟨g1, 0, none⟩) n n) x) (hne : g1 ≠ g) (cs : Array Value) : Bs (w.setRow g cs) (.slice (some ⟨g1, 0, none⟩) n n) x := by
  obtain ⟨q, c, hv, hc, hq, hs⟩ := h
  refine ⟨q, c, hv, hc, hq, fun hl => ?_⟩
  obtain ⟨a, rfl, hb, hc2⟩ := hs hl
  have ea : a = ⟨g1, 0, none⟩ := by injection hv with h1 _ _; injection h1 with h1; exact h1.symm
  subst ea
  refine ⟨_, rfl, by rw [size_setRow]; exact hb, fun j u hu => ?_⟩
  rw [← hc2 j u hu]
  unfold World.cell?
  rw [add_block, setRow_other w g g1 cs hne]
theorem built_eD (p : ByteArray) : Tryz.prog.built 47 [(0, .string p), (1, .bool true)] = some #[.string p, .bool true, .slice none 0 0] := by kernel_rfl
theorem built_eF (p : ByteArray) (q : Option Addr) (n c : Nat) : Tryz.prog.built 47 [(0, .string p), (2, .slice q n c)] = some #[.string p, .bool false, .slice q n c] := by kernel_rfl
theorem built_tr (q : Option Addr) (n c : Nat) : Tryz.prog.built 28 [(0, .slice q n c)] = some #[.slice q n c] := by kernel_rfl
/-- A row of two entries. -/
theorem wp_two_en {o : Oper} {a : Act} {w : World} {Q : Exit → Act → World → Prop} {K : Act → World → Prop} (x y : Operand) (ho : o.op = .buildSlice 26 2 #[(0, x), (1, y)]) (e f : Ent) (hx : a.eval x = entV e) (hy : a.eval y = entV f)
    (h : K (a.put o.dst (.slice (some ⟨w.heap.size, 0, none⟩) 2 2)) (w.alloc (.cells (rowC [e, f]).toArray 47))) : o.wp Tryz.prog a w K Q := by
  obtain ⟨i0, hi, hz0, hz1, hz2⟩ := info_parts ent_infoT
  refine wp_buildSlice 26 47 2 _ ho (rowC [e, f]).toArray i0 _ Tryz.underlying26 hi hz0 (by rw [hz1]; omega) (by rw [hz1]; omega) ?_ h
  rw [hz1]
  simp only [List.map_toArray, List.map_cons, List.map_nil, hx, hy]
  obtain ⟨e1, e2, e3, e4⟩ := e
  obtain ⟨f1, f2, f3, f4⟩ := f
  kernel_rfl
set_option maxHeartbeats 4000000 in
set_option maxRecDepth 100000 in
theorem some12_any (w : World) : Calls Tryz.prog 10 #[] w fun e w' => (∃ (v vb : Value), e = .returned (.agg #[v]) ∧ TrV w' v (smT vb) ∧ Ents w' (smT vb)) ∧ Below w.heap.size w w' := by
  have HX0 : Hid (Has (w.alloc (.cells #[.slice none 0 0] 28)) w.heap.size 28 [.slice none 0 0]) := Lib.hid (Has.made w _ _)
  have HB0 := Lib.hid ((Below.refl w.heap.size w).alloc (Nat.le_refl _) (.cells #[.slice none 0 0] 28))
  go_enter Tryz.func10, Tryz.ntmps10
  go_upto_region 1 with fail
  generalize w.alloc (.cells #[.slice none 0 0] 28) = w0 at *
  obtain ⟨g, hg⟩ : ∃ g, g = w.heap.size := ⟨_, rfl⟩
  rw [← hg] at HX0 ⊢
  have HGE := Lib.hid hg
  have HG1 : Hid (g < w0.heap.size) := Lib.hid HX0.out.lt
  clear hg
  refine wp_region_lit ?_
  try simp only [Act.put, List.setIfInBounds_toArray, List.set_cons_zero, List.set_cons_succ]
  refine lp_pure (by kernel_rfl) (build_val 47 _ rfl #[.string pA, .bool true, .slice none 0 0] [(0, .string pA), (1, .bool true)] (by kernel_rfl) (built_eD pA)) ?_
  try simp only [Act.put, List.setIfInBounds_toArray, List.set_cons_zero, List.set_cons_succ]
  refine lp_step (by kernel_rfl) (fun K hK => wp_lit8 5 _ rfl tHv (by decide) (by decide) (by kernel_rfl) (hK _ _ ?_))
  try simp only [Act.put, List.setIfInBounds_toArray, List.set_cons_zero, List.set_cons_succ]
  refine lp_step (by kernel_rfl) (fun K hK => wp_convk (.tmp 2) rfl tHv 5 5 rfl (hK _ _ ?_))
  try simp only [Act.put, List.setIfInBounds_toArray, List.set_cons_zero, List.set_cons_succ]
  have HA1 : Hid (Below w0.heap.size w0 (w0.alloc (.cells tHv 5 (tHv.size, tHv.size + 1)))) := Lib.hid ((Below.refl _ _).alloc (Nat.le_refl _) _)
  have HBH : Hid (Bs (w0.alloc (.cells tHv 5 (tHv.size, tHv.size + 1))) (.slice (some ⟨w0.heap.size, 0, none⟩) 5 5) tH) := Lib.hid (bs_litk w0 tH tHv _ tH_eq 5 rfl)
  generalize w0.alloc (.cells tHv 5 (tHv.size, tHv.size + 1)) = w1 at *
  have HB1 := Lib.hid (HB0.out.trans (HA1.out.mono HB0.out.size))
  have HX1 := Lib.hid (HX0.out.keepB HA1.out)
  clear HA1 HB0 HX0
  generalize w0.heap.size = g1 at *
  refine lp_pure (by kernel_rfl) (build_val 47 _ rfl #[.string pAB, .bool false, .slice (some ⟨g1, 0, none⟩) 5 5] [(0, .string pAB), (2, .slice (some ⟨g1, 0, none⟩) 5 5)] (by kernel_rfl) (built_eF pAB _ 5 5)) ?_
  try simp only [Act.put, List.setIfInBounds_toArray, List.set_cons_zero, List.set_cons_succ]
  refine lp_step (by kernel_rfl) (fun K hK => wp_two_en (.tmp 1) (.tmp 4) rfl (pA, true, .slice none 0 0, []) (pAB, false, .slice (some ⟨g1, 0, none⟩) 5 5, tH) rfl rfl (hK _ _ ?_))
  try simp only [Act.put, List.setIfInBounds_toArray, List.set_cons_zero, List.set_cons_succ]
  have HA2 : Hid (Below w1.heap.size w1 (w1.alloc (.cells (rowC (smT (.slice (some ⟨g1, 0, none⟩) 5 5))).toArray 47))) := Lib.hid ((Below.refl _ _).alloc (Nat.le_refl _) _)
  have HR2 : Hid (Has (w1.alloc (.cells (rowC (smT (.slice (some ⟨g1, 0, none⟩) 5 5))).toArray 47)) w1.heap.size 47 (rowC (smT (.slice (some ⟨g1, 0, none⟩) 5 5)))) := Lib.hid (Has.made' _ _ _ _ rfl)
  have hse : w1.alloc (.cells (rowC [(pA, true, .slice none 0 0, []), (pAB, false, .slice (some ⟨g1, 0, none⟩) 5 5, tH)]).toArray 47) = w1.alloc (.cells (rowC (smT (.slice (some ⟨g1, 0, none⟩) 5 5))).toArray 47) := rfl
  rw [hse]
  clear hse
  generalize w1.alloc (.cells (rowC (smT (.slice (some ⟨g1, 0, none⟩) 5 5))).toArray 47) = w2 at *
  have HB2 := Lib.hid (HB1.out.trans (HA2.out.mono HB1.out.size))
  have HX2 := Lib.hid (HX1.out.keepB HA2.out)
  have HBH2 := Lib.hid (HBH.out.keep HA2.out)
  clear HA2 HB1 HX1 HBH
  generalize w1.heap.size = g2 at *
  refine lp_pure (by kernel_rfl) (build_val 28 _ rfl #[.slice (some ⟨g2, 0, none⟩) 2 2] [(0, .slice (some ⟨g2, 0, none⟩) 2 2)] (by kernel_rfl) (built_tr _ 2 2)) ?_
  try simp only [Act.put, List.setIfInBounds_toArray, List.set_cons_zero, List.set_cons_succ]
  refine wpList_store_row rfl 28 (.tmp 0) (.tmp 6) rfl g #[.slice (some ⟨g2, 0, none⟩) 2 2] rfl rfl 28 [Value.slice none 0 0].toArray HX2.out (by exact szTr) rfl (by kernel_rfl) ?_
  simp only [Act.put]
  refine wpList_nil ?_
  have hne : g2 ≠ g := HR2.out.apartT HX2.out (by decide)
  have HRW : Hid (Has (w2.setRow g #[.slice (some ⟨g2, 0, none⟩) 2 2]) g2 47 (rowC (smT (.slice (some ⟨g1, 0, none⟩) 5 5)))) := Lib.hid (HR2.out.offRow hne _)
  have HXW : Hid (Has (w2.setRow g #[.slice (some ⟨g2, 0, none⟩) 2 2]) g 28 [.slice (some ⟨g2, 0, none⟩) 2 2]) := Lib.hid (HX2.out.rowl [_])
  have HBW := Lib.hid (below_row HB2.out (show w.heap.size ≤ g by have := HGE.out; omega) #[.slice (some ⟨g2, 0, none⟩) 2 2])
  go_wp2_with fail
  (try simp only [Exit.inBlock, Exit.then])
  refine bodyPost_ret (v := .agg #[.slice (some ⟨g2, 0, none⟩) 2 2]) ?_ rfl ⟨⟨.slice (some ⟨g2, 0, none⟩) 2 2, .slice (some ⟨g1, 0, none⟩) 5 5, rfl, ⟨some ⟨g2, 0, none⟩, 2, rfl, Nat.le_refl _, (fun h => by cases h), Sees.of_has HRW.out HRW.out.lt⟩, ?_⟩, HBW.out⟩
  · exact results_cell_row rfl _ _ g 28 _ (0, 0) _ rfl HXW.out Tryz.underlying28 rfl (by exact szTr)
  · intro e he
    rcases List.mem_cons.1 he with rfl | he
    · exact Bs.nil _
    · rw [List.mem_singleton.1 he]
      exact HBH2.out.offRow (Nat.ne_of_gt HG1.out) _
end Go.Proofs.YtmjonlffhhehjaaGreatDoor
/- Contract: the law's own awake: true. Condition: the sums' tables are laid. -/
namespace Go.Proofs.YtmjonlffhhehjaaGreatDoor
open Go.RowKit
/-- The recipe of two lines. -/
def smL (n1 n2 : Value) : List Ln := [(pA, true, zSu, n1, []), (pAB, false, shaU tH, n2, [shaU tH])]
theorem smL_key (n1 n2 : Value) : (smL n1 n2).map keyL = smR := rfl
theorem smL_of {R : List Ln} (h : R.map keyL = smR) : ∃ n1 n2, R = smL n1 n2 := by
  rcases R with _ | ⟨a, _ | ⟨b, _ | ⟨c, R⟩⟩⟩
  · have := congrArg List.length h; simp [smR] at this
  · have := congrArg List.length h; simp [smR] at this
  · obtain ⟨a1, a2, a3, a4, a5⟩ := a
    obtain ⟨b1, b2, b3, b4, b5⟩ := b
    injection h with h1 h2
    injection h2 with h2 _
    injection h1 with h11 h12
    injection h12 with h12 h13
    injection h13 with h13 h14
    injection h2 with h21 h22
    injection h22 with h22 h23
    injection h23 with h23 h24
    have e1 : a1 = pA := h11
    have e2 : a2 = true := h12
    have e3 : a3 = zSu := h13
    have e4 : a5 = [] := h14
    have e5 : b1 = pAB := h21
    have e6 : b2 = false := h22
    have e7 : b3 = shaU tH := h23
    have e8 : b5 = [shaU tH] := h24
    exact ⟨a4, b4, by rw [e1, e2, e3, e4, e5, e6, e7, e8]; rfl⟩
  · have := congrArg List.length h; simp [smR] at this
theorem zTr_run (w : World) : (zeroValue 28).run Tryz.prog w = .ok (.agg #[.slice none 0 0]) w := by kernel_rfl
theorem load_tr {o : Oper} {ev : Operand → Value} {w : World} (x : Operand) (ho : o.op = .load 28 x) (g : Nat) (hx : ev x = .pointer (some ⟨g, 0, none⟩)) (v : Value) (h : Has w g 28 [v]) :
    (execOp ev o).run Tryz.prog w = .ok (.value (.agg #[v])) w := by
  have hl := run_loadCells_list (P := Tryz.prog) w ⟨g, 0, none⟩ [v] (fun j u hu => by rw [add_lit', Nat.zero_add]; exact h.cellv hu)
  have hrun : (loadVar 28 ⟨g, 0, none⟩).run Tryz.prog w = .ok (.agg #[v]) w := by
    have hagg : (isAgg 28).run Tryz.prog w = .ok true w := by
      unfold isAgg
      rw [Sem.run_bind, run_underlying Tryz.underlying28 w]
      simp
    cases hq : Tryz.prog.info? 28 with
    | none => have := szTr; rw [hq] at this; cases this
    | some i =>
      have hs : i.size = 1 := by have := szTr; rw [hq] at this; simpa using this
      have hl' : (loadCells ⟨g, 0, none⟩ 1).run Tryz.prog w = .ok #[v] w := hl
      simp only [loadVar, sizeOf, typeInfo, Sem.run_bind, hagg, Result.andThen_ok, if_true]
      simp [hq, hs, hl']
  unfold execOp
  simp only [ho, hx, Instr.loadAt, Instr.sureAddr, Sem.run_bind, Sem.run_pure, Result.andThen_ok, hrun]
set_option maxHeartbeats 8000000 in
set_option maxRecDepth 100000 in
theorem awake12_any (w : World) (hL : Laid w) : Calls Tryz.prog 8 #[] w fun e w' => e = .returned (.bool true) ∧ Below w.heap.size w w' := by
  have HL := Lib.hid hL
  have HSZ := Lib.hid hL.size
  have HSM := Lib.hid (some12_any w)
  clear hL
  go_enter Tryz.func8, Tryz.ntmps8
  go_upto_region 1 with fail
  refine wp_region_lit ?_
  try simp only [Act.put, List.setIfInBounds_toArray, List.set_cons_zero, List.set_cons_succ]
  refine lp_step (by kernel_rfl) (fun K hK => ?_)
  go_wp2_with fail
  refine Calls.mono (HSM.out) ?_
  rintro e w1 ⟨⟨v1, vb1, rfl, ⟨q1, c1, rfl, hc1, hq1, hs1⟩, hE1⟩, hb⟩
  have HB1 := Lib.hid hb
  have HOF : Hid (Calls Tryz.prog 9 #[.agg #[.slice q1 2 c1]] w1 fun e w' => (∃ v R, e = .returned v ∧ LnV w' v R ∧ LnO w' w1.heap.size 31 R ∧ R.map keyL = ofP (smT vb1)) ∧ Below w1.heap.size w1 w') := Lib.hid (of12_any (smT vb1) q1 c1 w1 (show (smT vb1).length ≤ 1000 from Nat.le_of_ble_eq_true rfl) hc1 hq1 (show bytesT (smT vb1) ≤ 4611686018427387904 from Nat.le_of_ble_eq_true rfl) (fun e he => by
    rcases List.mem_cons.1 he with rfl | he
    · exact Nat.lt_of_lt_of_le (show pA.size < 10 by decide) (by omega)
    · rw [List.mem_singleton.1 he]; exact Nat.lt_of_lt_of_le (show pAB.size < 10 by decide) (by omega)) hs1 hE1 (HL.out.keep HB1.out HSZ.out))
  have hv1 : (Value.slice q1 (smT vb1).length c1) = .slice q1 2 c1 := rfl
  rw [hv1]
  clear hb hc1 hq1 hs1 hE1 hv1 HSM
  refine hK _ _ ?_
  clear hK
  try simp only [Act.put, List.setIfInBounds_toArray, List.set_cons_zero, List.set_cons_succ]
  refine lp_step (by kernel_rfl) (fun K hK => ?_)
  go_wp2_with fail
  refine Calls.mono (HOF.out) ?_
  rintro e w2 ⟨⟨v2, R, rfl, ⟨q2, c2, rfl, hc2, hq2, hs2⟩, hln, hkey⟩, hb⟩
  have HB2 := Lib.hid (HB1.out.trans (hb.mono HB1.out.size))
  rw [smT_of] at hkey
  obtain ⟨n1, n2, rfl⟩ := smL_of hkey
  have HS2 := Lib.hid hs2
  have HLN := Lib.hid hln.lnb
  have hv2 : (Value.slice q2 (smL n1 n2).length c2) = .slice q2 2 c2 := rfl
  rw [hv2]
  clear hb hkey hln hs2 hv2 hc2 hq2 HOF HB1
  refine hK _ _ ?_
  clear hK
  try simp only [Act.put, List.setIfInBounds_toArray, List.set_cons_zero, List.set_cons_succ]
  refine lp_pure (v := ?_) (by kernel_rfl) ?_ ?_
  rotate_left
  · go_simp; try with_reducible rfl
  try simp only [Act.put, List.setIfInBounds_toArray, List.set_cons_zero, List.set_cons_succ]
  refine wpList_nil ?_
  go_upto_region 2 with fail
  refine wp_region_lit ?_
  try simp only [Act.put, List.setIfInBounds_toArray, List.set_cons_zero, List.set_cons_succ]
  refine lp_pure (v := ?_) (by kernel_rfl) ?_ ?_
  rotate_left
  · go_simp; try with_reducible rfl
  try simp only [Act.put, List.setIfInBounds_toArray, List.set_cons_zero, List.set_cons_succ]
  refine lp_step (by kernel_rfl) (fun K hK => wp_lit8 5 _ rfl tHv (by decide) (by decide) (by kernel_rfl) (hK _ _ ?_))
  try simp only [Act.put, List.setIfInBounds_toArray, List.set_cons_zero, List.set_cons_succ]
  refine lp_step (by kernel_rfl) (fun K hK => wp_convk (.tmp 8) rfl tHv 5 5 rfl (hK _ _ ?_))
  try simp only [Act.put, List.setIfInBounds_toArray, List.set_cons_zero, List.set_cons_succ]
  have HA3 : Hid (Below w2.heap.size w2 (w2.alloc (.cells tHv 5 (tHv.size, tHv.size + 1)))) := Lib.hid ((Below.refl _ _).alloc (Nat.le_refl _) _)
  have hbh : Bs (w2.alloc (.cells tHv 5 (tHv.size, tHv.size + 1))) (.slice (some ⟨w2.heap.size, 0, none⟩) 5 5) tH := bs_litk w2 tH tHv _ tH_eq 5 rfl
  generalize w2.alloc (.cells tHv 5 (tHv.size, tHv.size + 1)) = w3 at *
  have HB3 := Lib.hid (HB2.out.trans (HA3.out.mono HB2.out.size))
  have HS3 := Lib.hid ((HS2.out.keep HA3.out).more HA3.out.size)
  have HLN3 := Lib.hid (HLN.out.keep HA3.out)
  clear HS2 HLN HB2 HA3
  generalize w2.heap.size = g2 at *
  obtain ⟨qh, ch, hvh, hch, hqh, hsh⟩ := hbh
  have hvh' : qh = some ⟨g2, 0, none⟩ ∧ ch = 5 := by injection hvh with h1 h2 h3; exact ⟨h1.symm, h3.symm⟩
  obtain ⟨rfl, rfl⟩ := hvh'
  have HCT : Hid (Calls Tryz.prog 14 #[.slice (some ⟨g2, 0, none⟩) 5 5] w3 fun e w' => (∃ v L, e = .returned v ∧ PcV w' v L ∧ Pcb w' L ∧ L.map keyP = cutP tH) ∧ Below w3.heap.size w3 w') := Lib.hid (ccut_any tH (some ⟨g2, 0, none⟩) 5 w3 (by decide) (fun h => by cases h) (by decide) hsh (HL.out.keep HB3.out HSZ.out))
  clear hvh hch hqh hsh
  refine lp_step (by kernel_rfl) (fun K hK => ?_)
  go_wp2_with fail
  refine Calls.mono (HCT.out) ?_
  rintro e w4 ⟨⟨v4, LP, rfl, ⟨q4, c4, rfl, _, _, hs4⟩, hpb, hk4⟩, hb⟩
  rw [tH_cut] at hk4
  obtain ⟨pv, rfl⟩ := keys_one hk4
  have HB4 := Lib.hid (HB3.out.trans (hb.mono HB3.out.size))
  have HS4 := Lib.hid ((HS3.out.keep hb).more hb.size)
  have HLN4 := Lib.hid (HLN3.out.keep hb)
  have HBK : Hid (Calls Tryz.prog 11 #[.slice q2 2 c2, .slice q4 1 c4] w4 fun e w' => BakedR (bakeP [(shaU tH, pv, tH)] ((smL n1 n2).map keyL)) e w' ∧ Below w4.heap.size w4 w') := Lib.hid (bake12_any (smL n1 n2) q2 c2 [(shaU tH, pv, tH)] q4 c4 w4 (Nat.lt_of_lt_of_le (show (smL n1 n2).length < 3 from Nat.lt_succ_self 2) (by omega)) (fun l hl => by
    rcases List.mem_cons.1 hl with rfl | hl
    · exact ⟨Nat.lt_of_lt_of_le (show pA.size < 10 by decide) (by omega), Nat.lt_of_lt_of_le (show 0 < 10 by decide) (by omega)⟩
    · rw [List.mem_singleton.1 hl]; exact ⟨Nat.lt_of_lt_of_le (show pAB.size < 10 by decide) (by omega), Nat.lt_of_lt_of_le (show 1 < 10 by decide) (by omega)⟩) HS4.out HLN4.out (by simp) hs4 hpb (fun p hp => by rw [List.mem_singleton.1 hp]; exact Nat.le_of_ble_eq_true rfl) (HL.out.keep HB4.out HSZ.out))
  rw [smL_key, sm_bake] at HBK
  have hv4 : (Value.slice q4 [((shaU tH, pv, tH) : Pc)].length c4) = .slice q4 1 c4 := rfl
  rw [hv4]
  clear hb hk4 hpb hs4 hv4 HCT HS3 HLN3 HB3
  refine hK _ _ ?_
  clear hK
  try simp only [Act.put, List.setIfInBounds_toArray, List.set_cons_zero, List.set_cons_succ]
  refine lp_step (by kernel_rfl) (fun K hK => ?_)
  go_wp2_with fail
  refine Calls.mono (HBK.out) ?_
  rintro e w5 ⟨⟨v5, T, rfl, ⟨q5, c5, rfl, hc5, hq5, hs5⟩, hE5, hk5⟩, hb⟩
  obtain ⟨u1, u2, rfl⟩ := smK_of hk5
  have HB5 := Lib.hid (HB4.out.trans (hb.mono HB4.out.size))
  have HS5 := Lib.hid ((HS4.out.keep hb).more hb.size)
  have HLN5 := Lib.hid (HLN4.out.keep hb)
  have HT5 := Lib.hid hs5
  have HE5 := Lib.hid hE5
  have HC5 : Hid (2 ≤ c5) := Lib.hid hc5
  have hv5 : (Value.slice q5 [((pA, true, u1, []) : Ent), (pAB, false, u2, tH)].length c5) = .slice q5 2 c5 := rfl
  rw [hv5]
  clear hb hk5 hs5 hE5 hv5 hc5 hq5 HBK HS4 HLN4 HB4
  refine hK _ _ ?_
  clear hK
  simp only []
  refine lp_pure (v := ?_) (by kernel_rfl) ?_ ?_
  rotate_left
  · go_simp; try with_reducible rfl
  try simp only [Act.put, List.setIfInBounds_toArray, List.set_cons_zero, List.set_cons_succ]
  refine lp_pure (v := ?_) (by kernel_rfl) ?_ ?_
  rotate_left
  · go_simp; try with_reducible rfl
  try simp only [Act.put, List.setIfInBounds_toArray, List.set_cons_zero, List.set_cons_succ]
  refine lp_pure (v := ?_) (by kernel_rfl) ?_ ?_
  rotate_left
  · go_simp; try with_reducible rfl
  try simp only [Act.put, List.setIfInBounds_toArray, List.set_cons_zero, List.set_cons_succ]
  refine wpList_alloc rfl _ rfl #[.slice none 0 0] (zTr_run w5) ?_
  try simp only [Act.put, List.setIfInBounds_toArray, List.set_cons_zero, List.set_cons_succ]
  have HZ6 := Lib.hid (Has.made w5 28 #[.slice none 0 0])
  have HA6 := Lib.hid ((Below.refl w5.heap.size w5).alloc (Nat.le_refl _) (.cells #[.slice none 0 0] 28))
  refine wpList_store_row rfl 28 (.tmp 2) (.tmp 12) rfl w5.heap.size #[.slice q5 2 c5] rfl rfl 28 [Value.slice none 0 0].toArray HZ6.out (by exact szTr) rfl (by kernel_rfl) ?_
  simp only [Act.put]
  have hbz : Below w5.heap.size w5 ((w5.alloc (.cells #[.slice none 0 0] 28)).setRow w5.heap.size #[.slice q5 2 c5]) := below_row HA6.out (Nat.le_refl _) _
  have HX6 : Hid (Has ((w5.alloc (.cells #[.slice none 0 0] 28)).setRow w5.heap.size #[.slice q5 2 c5]) w5.heap.size 28 [.slice q5 2 c5]) := Lib.hid (HZ6.out.rowl [_])
  generalize (w5.alloc (.cells #[.slice none 0 0] 28)).setRow w5.heap.size #[.slice q5 2 c5] = w6 at *
  have HB6 := Lib.hid (HB5.out.trans (hbz.mono HB5.out.size))
  have HS6 := Lib.hid ((HS5.out.keep hbz).more hbz.size)
  have HLN6 := Lib.hid (HLN5.out.keep hbz)
  have HT6 := Lib.hid ((HT5.out.keep hbz).more hbz.size)
  have HE6 := Lib.hid (HE5.out.keep hbz)
  clear hbz HZ6 HA6 HB5 HS5 HLN5 HT5 HE5
  generalize w5.heap.size = b6 at *
  refine lp_pure (v := ?_) (by kernel_rfl) ?_ ?_
  rotate_left
  · go_simp; try with_reducible rfl
  try simp only [Act.put, List.setIfInBounds_toArray, List.set_cons_zero, List.set_cons_succ]
  refine wpList_nil ?_
  go_upto_region 3 with fail
  obtain ⟨ar, rfl, _, hcell⟩ := Sees.ln HS6.out (i := 1) (show 1 < (smL n1 n2).length from Nat.lt_succ_self 1)
  obtain ⟨qn, cn, hn2, _, _, _⟩ := HLN6.out (pAB, false, shaU tH, n2, [shaU tH]) (List.mem_cons_of_mem _ (List.mem_singleton.2 rfl))
  have hn2' : n2 = .slice qn 1 cn := hn2
  subst hn2'
  have HC34 : Hid (∀ w', Below w6.drew.heap.size w6.drew w' → w'.cell? ⟨ar.block, ar.off + 35 + 34, none⟩ = some (.slice qn 1 cn)) := Lib.hid (fun w' h => hcell w' ((Below.refl _ _).drew.trans h) 34 _ (encL_n (pAB, false, shaU tH, .slice qn 1 cn, [shaU tH])))
  clear hcell hn2
  refine wp_region_ors (fun w' => Below w6.drew.heap.size w6.drew w') [(0, true), (1, true), (2, true), (3, true), (4, true), (5, true), (6, true), (7, true), (8, true), (9, true), (10, true), (11, true), (12, true), (13, false), (14, true), (15, true), (16, true), (17, true), (18, true), (19, true), (20, true), (21, false), (22, false), (23, true), (24, true)] (by kernel_rfl) (by kernel_rfl) (by kernel_rfl) (Below.refl _ _) ?_
  have HB7 := Lib.hid HB6.out.drew
  have HX7 : Hid (Has w6.drew b6 28 [.slice q5 2 c5]) := Lib.hid HX6.out.drew
  have HS7 : Hid (Sees w6.drew w6.drew.heap.size (some ar) (rowL (smL n1 (.slice qn 1 cn)))) := Lib.hid HS6.out
  have HLN7 : Hid (Lnb w6.drew (smL n1 (.slice qn 1 cn))) := Lib.hid HLN6.out
  have HT7 : Hid (Sees w6.drew w6.drew.heap.size q5 (rowC [(pA, true, u1, []), (pAB, false, u2, tH)])) := Lib.hid HT6.out
  have HE7 : Hid (Ents w6.drew [(pA, true, u1, []), (pAB, false, u2, tH)]) := Lib.hid HE6.out
  clear HB6 HX6 HS6 HLN6 HT6 HE6
  generalize w6.drew = wd at *
  have HGD : Hid (Calls Tryz.prog 12 #[.slice (some ar) 2 c2] wd fun e w' => e = .returned (.bool (goodK ((smL n1 (.slice qn 1 cn)).map keyL))) ∧ Below wd.heap.size wd w') := Lib.hid (goodK_any (smL n1 (.slice qn 1 cn)) (some ar) c2 wd (Nat.lt_of_lt_of_le (show (smL n1 (.slice qn 1 cn)).length < 3 from Nat.lt_succ_self 2) (by omega)) (fun l hl => by
    rcases List.mem_cons.1 hl with rfl | hl
    · exact ⟨Nat.lt_of_lt_of_le (show pA.size < 10 by decide) (by omega), Nat.lt_of_lt_of_le (show 0 < 10 by decide) (by omega)⟩
    · rw [List.mem_singleton.1 hl]; exact ⟨Nat.lt_of_lt_of_le (show pAB.size < 10 by decide) (by omega), Nat.lt_of_lt_of_le (show 1 < 10 by decide) (by omega)⟩) HS7.out HLN7.out)
  rw [smL_key, smR_good] at HGD
  simp only [pickOrs, List.getElem?_cons_zero, List.getElem?_cons_succ]
  refine ors_pure (v := ?_) (by kernel_rfl) ?_ ?_
  rotate_left
  · intro w' hv; clear hv; go_simp; try with_reducible rfl
  try simp only [Act.put, List.setIfInBounds_toArray, List.set_cons_zero, List.set_cons_succ]
  refine ors_pure (v := ?_) (by kernel_rfl) ?_ ?_
  rotate_left
  · intro w' hv; clear hv; go_simp; try with_reducible rfl
  try simp only [Act.put, List.setIfInBounds_toArray, List.set_cons_zero, List.set_cons_succ]
  refine ors_pure (v := ?_) (by kernel_rfl) ?_ ?_
  rotate_left
  · intro w' hv; clear hv; go_simp; try with_reducible rfl
  try simp only [Act.put, List.setIfInBounds_toArray, List.set_cons_zero, List.set_cons_succ]
  refine ors_pure (v := ?_) (by kernel_rfl) ?_ ?_
  rotate_left
  · intro w' hv; clear hv; go_simp; try with_reducible rfl
  try simp only [Act.put, List.setIfInBounds_toArray, List.set_cons_zero, List.set_cons_succ]
  refine ors_pure (v := ?_) (by kernel_rfl) ?_ ?_
  rotate_left
  · intro w' hv; clear hv; go_simp; try with_reducible rfl
  try simp only [Act.put, List.setIfInBounds_toArray, List.set_cons_zero, List.set_cons_succ]
  refine ors_pure (v := ?_) (by kernel_rfl) ?_ ?_
  rotate_left
  · intro w' hv; clear hv; go_simp; try with_reducible rfl
  try simp only [Act.put, List.setIfInBounds_toArray, List.set_cons_zero, List.set_cons_succ]
  refine ors_pure (v := ?_) (by kernel_rfl) ?_ ?_
  rotate_left
  · intro w' hv; clear hv; go_simp; try with_reducible rfl
  try simp only [Act.put, List.setIfInBounds_toArray, List.set_cons_zero, List.set_cons_succ]
  refine ors_pure (v := ?_) (by kernel_rfl) ?_ ?_
  rotate_left
  · intro w' hv; have c34 := HC34.out w' hv; clear hv; go_simp; try with_reducible rfl
  try simp only [Act.put, List.setIfInBounds_toArray, List.set_cons_zero, List.set_cons_succ]
  refine ors_pure (v := ?_) (by kernel_rfl) ?_ ?_
  rotate_left
  · intro w' hv; clear hv; go_simp; try with_reducible rfl
  try simp only [Act.put, List.setIfInBounds_toArray, List.set_cons_zero, List.set_cons_succ]
  refine ors_pure (v := ?_) (by kernel_rfl) ?_ ?_
  rotate_left
  · intro w' hv; clear hv; go_simp; try with_reducible rfl
  try simp only [Act.put, List.setIfInBounds_toArray, List.set_cons_zero, List.set_cons_succ]
  refine ors_pure (v := ?_) (by kernel_rfl) ?_ ?_
  rotate_left
  · intro w' hv; clear hv; go_simp; try with_reducible rfl
  try simp only [Act.put, List.setIfInBounds_toArray, List.set_cons_zero, List.set_cons_succ]
  refine ors_pure (v := ?_) (by kernel_rfl) ?_ ?_
  rotate_left
  · intro w' hv; clear hv; go_simp; try with_reducible rfl
  try simp only [Act.put, List.setIfInBounds_toArray, List.set_cons_zero, List.set_cons_succ]
  refine ors_pure (v := ?_) (by kernel_rfl) ?_ ?_
  rotate_left
  · intro w' hv; clear hv; go_simp; try with_reducible rfl
  try simp only [Act.put, List.setIfInBounds_toArray, List.set_cons_zero, List.set_cons_succ]
  refine ors_step (by kernel_rfl) (fun K hK => ?_)
  go_wp2_with fail
  refine Calls.mono (HGD.out) ?_
  rintro e w7 ⟨rfl, hb⟩
  have HD7 : Hid (Below wd.heap.size wd w7) := Lib.hid hb
  refine hK _ _ ⟨hb, ?_⟩
  clear hK
  try simp only [Act.put, List.setIfInBounds_toArray, List.set_cons_zero, List.set_cons_succ]
  clear hb HGD
  refine ors_pure (v := ?_) (by kernel_rfl) ?_ ?_
  rotate_left
  · intro w' hv; clear hv; go_simp; try with_reducible rfl
  try simp only [Act.put, List.setIfInBounds_toArray, List.set_cons_zero, List.set_cons_succ]
  refine ors_pure (v := ?_) (by kernel_rfl) ?_ ?_
  rotate_left
  · intro w' hv; clear hv; go_simp; try with_reducible rfl
  try simp only [Act.put, List.setIfInBounds_toArray, List.set_cons_zero, List.set_cons_succ]
  refine ors_pure (v := ?_) (by kernel_rfl) ?_ ?_
  rotate_left
  · intro w' hv; clear hv; go_simp; try with_reducible rfl
  try simp only [Act.put, List.setIfInBounds_toArray, List.set_cons_zero, List.set_cons_succ]
  refine ors_pure (v := ?_) (by kernel_rfl) ?_ ?_
  rotate_left
  · intro w' hv; clear hv; go_simp; try with_reducible rfl
  try simp only [Act.put, List.setIfInBounds_toArray, List.set_cons_zero, List.set_cons_succ]
  refine ors_pure (v := ?_) (by kernel_rfl) ?_ ?_
  rotate_left
  · intro w' hv; clear hv; go_simp; try with_reducible rfl
  try simp only [Act.put, List.setIfInBounds_toArray, List.set_cons_zero, List.set_cons_succ]
  refine ors_pure (v := ?_) (by kernel_rfl) ?_ ?_
  rotate_left
  · intro w' hv; clear hv; go_simp; try with_reducible rfl
  try simp only [Act.put, List.setIfInBounds_toArray, List.set_cons_zero, List.set_cons_succ]
  refine ors_pure (by kernel_rfl) (fun w' hv => load_tr (.tmp 2) rfl b6 rfl (.slice q5 2 c5) (HX7.out.keepB hv)) ?_
  try simp only [Act.put, List.setIfInBounds_toArray, List.set_cons_zero, List.set_cons_succ]
  refine ors_step (by kernel_rfl) (fun K hK => ?_)
  go_wp2_with fail
  refine Calls.mono (some12_any w7) ?_
  rintro e w8 ⟨⟨v8, vb8, rfl, ⟨q8, c8, rfl, hc8, hq8, hs8⟩, hE8⟩, hb⟩
  have HD8 : Hid (Below wd.heap.size wd w8) := Lib.hid (HD7.out.trans (hb.mono HD7.out.size))
  have HSA : Hid (Calls Tryz.prog 34 #[.agg #[.slice q5 2 c5], .agg #[.slice q8 2 c8]] w8 fun e w' => e = .returned (.bool (sameT [(pA, true, u1, []), (pAB, false, u2, tH)] (smT vb8))) ∧ Below w8.heap.size w8 w') := Lib.hid (tsame_any [(pA, true, u1, []), (pAB, false, u2, tH)] (smT vb8) q5 q8 c5 c8 (by simp) (by simp [smT]) HC5.out hc8 (Nat.le_of_ble_eq_true rfl) (show bytesT (smT vb8) ≤ 4611686018427387904 from Nat.le_of_ble_eq_true rfl) (fun e he => by
    rcases List.mem_cons.1 he with rfl | he
    · exact Nat.lt_of_lt_of_le (show pA.size < 10 by decide) (by omega)
    · rw [List.mem_singleton.1 he]; exact Nat.lt_of_lt_of_le (show pAB.size < 10 by decide) (by omega)) (fun e he => by
    rcases List.mem_cons.1 he with rfl | he
    · exact Nat.lt_of_lt_of_le (show pA.size < 10 by decide) (by omega)
    · rw [List.mem_singleton.1 he]; exact Nat.lt_of_lt_of_le (show pAB.size < 10 by decide) (by omega)) w8 ((HT7.out.keep HD8.out).more HD8.out.size) hs8 (HE7.out.keep HD8.out) hE8)
  rw [sm_same] at HSA
  have hv8 : (Value.slice q8 (smT vb8).length c8) = .slice q8 2 c8 := rfl
  rw [hv8]
  clear hb hc8 hq8 hs8 hE8 hv8
  refine hK _ _ ⟨HD8.out, ?_⟩
  clear hK
  try simp only [Act.put, List.setIfInBounds_toArray, List.set_cons_zero, List.set_cons_succ]
  refine ors_step (by kernel_rfl) (fun K hK => ?_)
  go_wp2_with fail
  refine Calls.mono (HSA.out) ?_
  rintro e w9 ⟨rfl, hb⟩
  have HD9 : Hid (Below wd.heap.size wd w9) := Lib.hid (HD8.out.trans (hb.mono HD8.out.size))
  clear hb
  refine hK _ _ ⟨HD9.out, ?_⟩
  clear hK
  try simp only [Act.put, List.setIfInBounds_toArray, List.set_cons_zero, List.set_cons_succ]
  refine ors_pure (v := ?_) (by kernel_rfl) ?_ ?_
  rotate_left
  · intro w' hv; clear hv; go_simp; try with_reducible rfl
  try simp only [Act.put, List.setIfInBounds_toArray, List.set_cons_zero, List.set_cons_succ]
  refine ors_pure (v := ?_) (by kernel_rfl) ?_ ?_
  rotate_left
  · intro w' hv; clear hv; go_simp; try with_reducible rfl
  try simp only [Act.put, List.setIfInBounds_toArray, List.set_cons_zero]
  refine ors_nil ?_
  go_wp2_with fail
  go_ret
  exact ⟨rfl, HB7.out.trans (HD9.out.mono HB7.out.size)⟩
end Go.Proofs.YtmjonlffhhehjaaGreatDoor
