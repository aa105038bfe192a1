/- Contracts: package disk's power, Sync. Conditions: what waits is not large. -/
import Derived.Test.YtefamkckoikeoaaDoorBase4
import Derived.Maps.AppendAt
import Derived.Test.YtefamkckoikeoaaDoorBase3
import Derived.Test.YtefamkckoikeoaaDoorRows
import Derived.Test.YtefamkckoikeoaaDoorBase1
import Derived.Lay
import Derived.ProofKit
import Derived.LaidMore
import Derived.OpenShut
import Derived.SliceStrings
import Derived.ChangeMaps5
import Derived.Below
import Derived.Lib.SmallJoins
import Derived.SizedLaws
namespace Go.Proofs.YtefamkckoikeoaaDoor
open Go.RowKit
noncomputable def chkPw : Array Oper := regOf Tryd.f59.body 4
set_option maxRecDepth 100000 in
theorem chkPw_ok : otcB [.inl (0, true), .inl (1, true), .inl (2, true), .inl (3, true), .inl (4, true), .inl (6, true), .inl (7, true), .inl (8, true), .inl (9, true), .inr (5, 10), .inl (11, false)] chkPw = true := by kernel_rfl
set_option maxHeartbeats 16000000 in
set_option maxRecDepth 100000 in
theorem power_any (g n : Nat) (B : Option Nat) (S : DS) (hsm : Sm S) (w : World) (hD : DiskAt w g n B S) :
    Calls Tryd.prog 59 #[.pointer (some ⟨g, 0, none⟩)] w fun e w' => e = .returned (.bool (!(powerS S).off)) ∧ After w g n B (powerS S) w' := by
  have HD := Lib.hid hD
  have hD0 := hD
  obtain ⟨_, _, hok, vn, vl, vw, vk, hh, h1, h2, h3, h4, h5⟩ := hD
  have c4 := hh.cellv (i := 4) (v := .bool S.off) rfl
  have c5 := hh.cellv (i := 5) (v := .int .i64 S.left) rfl
  by_cases hl : 0 < S.left
  · have hw : IntKind.i64.wrap (S.left - 1) = S.left - 1 := by rw [IntWalk.i64_in _ (by have := hsm.2.2.2; omega)]
    have f5 := hh.free 5
    have HA2 : Hid (DiskAt (w.setCell ⟨g, 5, none⟩ (.int .i64 (S.left - 1))) g n B { S with left := S.left - 1 }) := Lib.hid (disk_put hD0 ((Fr.refl _ w).set1 5 _) (S' := { S with left := S.left - 1 }) ⟨hok.now, hok.lasts, hok.nowE, hok.lastsE⟩ (hh.put 5 _) h1 h2 h3 h4 h5)
    have HF2 : Hid (Fr (Own g B) w (w.setCell ⟨g, 5, none⟩ (.int .i64 (S.left - 1)))) := Lib.hid (((Fr.refl (fun k => k = g) w).set1 5 _).mono fun _ _ hk => .inl hk)
    obtain ⟨qk, ck, rfl, hs5, -⟩ := h5
    have c6 := hh.cellv (i := 6) (v := .slice qk S.keep.length ck) rfl
    have c7 := hh.cellv (i := 7) (v := .int .i64 S.torn) rfl
    have HH2 := Lib.hid (hh.put 5 (.int .i64 (S.left - 1)))
    by_cases hl1 : S.left = 1
    · have e0 : powerS S = crashS { S with left := 0 } S.keep S.torn := by unfold powerS; rw [if_pos hl, if_pos hl1]
      have e1 : S.left - 1 = 0 := by omega
      have k1 : (S.left - 1 == 0) = true := by simp [hl1]
      rw [e1] at HA2
      have HKS : Hid (Sees (w.setCell ⟨g, 5, none⟩ (.int .i64 0)) (w.setCell ⟨g, 5, none⟩ (.int .i64 0)).heap.size qk (S.keep.map (Value.int .i64))) := Lib.hid (by
        obtain ⟨_, _, _, _, _, _, _, h6, _, _, _, _, q2, c2, e6, h7, _⟩ := HA2.out
        have hx := HH2.out.cellv (i := 6) (v := .slice qk S.keep.length ck) rfl
        have hy := h6.cellv (i := 6) (v := .slice q2 S.keep.length c2) (by rw [e6]; rfl)
        rw [e1] at hx
        rw [hx] at hy
        cases hy
        exact h7)
      have HCR : Hid (∀ w2, Below w.heap.size (w.setCell ⟨g, 5, none⟩ (.int .i64 0)) w2 → Calls Tryd.prog 24 #[.pointer (some ⟨g, 0, none⟩), .slice qk S.keep.length ck, .int .i64 S.torn] w2 fun e w' => e = .returned (.tuple #[]) ∧ After w g n B (crashS { S with left := 0 } S.keep S.torn) w') := Lib.hid (fun w2 hb => by
        have hb' : Below (w.setCell ⟨g, 5, none⟩ (.int .i64 0)).heap.size (w.setCell ⟨g, 5, none⟩ (.int .i64 0)) w2 := by rw [size_set]; exact hb
        refine (crash_any g n B { S with left := 0 } S.keep qk ck S.torn hsm.2.2.1 ⟨hsm.1, hsm.2.1, hsm.2.2.1, (show (0 : Int) ≤ 9223372036854775807 by decide)⟩ w2 (HA2.out.keep hb') ((HKS.out.keep hb').more hb'.size)).mono ?_
        rintro e w' ⟨rfl, ha⟩
        rw [e1] at HF2
        exact ⟨rfl, After.trans (.inl rfl) (HF2.out.then_below hb') ha⟩)
      rw [e0]
      rw [hl1] at c5 hw hl
      rw [e1] at HF2 HH2
      clear hh h1 h2 h3 h4 hs5 hD0 hok hsm hl1 e0 e1 k1 HA2 HKS
      generalize crashS { S with left := 0 } S.keep S.torn = T at *
      simp only [Int.sub_self] at hw
      go_enter Tryd.func59, Tryd.ntmps59
      go_wp2_with fail
      replace HCR := Lib.hid (HCR.out _ ((Below.refl w.heap.size (w.setCell ⟨g, 5, none⟩ (.int .i64 0))).drew))
      replace HH2 : Hid (Has (w.setCell ⟨g, 5, none⟩ (.int .i64 0)).drew g 100 _) := HH2
      generalize w.setCell ⟨g, 5, none⟩ (.int .i64 0) = w0 at *
      refine wp_region_os [.inl (0, true), .inl (1, true), .inl (2, true), .inl (3, true), .inl (4, true), .inl (6, true), .inl (7, true), .inl (8, true), .inl (9, true), .inr (5, 10), .inl (11, false)] _ chkPw_ok rfl (by kernel_rfl) (by kernel_rfl) (fun _ => True) trivial ?_
      generalize w0.drew = wd at *
      have c6' := HH2.out.cellv (i := 6) (v := .slice qk S.keep.length ck) rfl
      have c7' := HH2.out.cellv (i := 7) (v := .int .i64 S.torn) rfl
      clear c6 c7 c5
      simp only [pickOt, List.getElem?_cons_zero, List.getElem?_cons_succ]
      refine os_pure (v := ?_) (by kernel_rfl) ?_ ?_
      rotate_left
      · intro w' hv; clear hv; go_simp; try with_reducible rfl
      try simp only [Act.put, List.setIfInBounds_toArray, List.set_cons_zero, List.set_cons_succ]
      refine os_pure (v := ?_) (by kernel_rfl) ?_ ?_
      rotate_left
      · intro w' hv; clear hv; go_simp; try with_reducible rfl
      try simp only [Act.put, List.setIfInBounds_toArray, List.set_cons_zero, List.set_cons_succ]
      refine os_pure (v := ?_) (by kernel_rfl) ?_ ?_
      rotate_left
      · intro w' hv; clear hv; go_simp; try with_reducible rfl
      try simp only [Act.put, List.setIfInBounds_toArray, List.set_cons_zero, List.set_cons_succ]
      refine os_pure (v := ?_) (by kernel_rfl) ?_ ?_
      rotate_left
      · intro w' hv; clear hv; go_simp; try with_reducible rfl
      try simp only [Act.put, List.setIfInBounds_toArray, List.set_cons_zero, List.set_cons_succ]
      refine os_pure (v := ?_) (by kernel_rfl) ?_ ?_
      rotate_left
      · intro w' hv; clear hv; go_simp; try with_reducible rfl
      try simp only [Act.put, List.setIfInBounds_toArray, List.set_cons_zero, List.set_cons_succ]
      refine os_pure (v := ?_) (by kernel_rfl) ?_ ?_
      rotate_left
      · intro w' hv; clear hv; go_simp; try with_reducible rfl
      try simp only [Act.put, List.setIfInBounds_toArray, List.set_cons_zero, List.set_cons_succ]
      refine os_pure (v := ?_) (by kernel_rfl) ?_ ?_
      rotate_left
      · intro w' hv; clear hv; go_simp; try with_reducible rfl
      try simp only [Act.put, List.setIfInBounds_toArray, List.set_cons_zero, List.set_cons_succ]
      refine os_pure (v := ?_) (by kernel_rfl) ?_ ?_
      rotate_left
      · intro w' hv; clear hv; go_simp; try with_reducible rfl
      try simp only [Act.put, List.setIfInBounds_toArray, List.set_cons_zero, List.set_cons_succ]
      refine os_pure (v := ?_) (by kernel_rfl) ?_ ?_
      rotate_left
      · intro w' hv; clear hv; go_simp; try with_reducible rfl
      try simp only [Act.put, List.setIfInBounds_toArray, List.set_cons_zero, List.set_cons_succ]
      refine os_two (fun v u w' => v = .slice qk S.keep.length ck ∧ u = .int .i64 S.torn ∧ w' = wd) (by kernel_rfl) (by kernel_rfl) (fun v => by kernel_rfl) (fun v => by kernel_rfl)
        (fun v w' => v = .slice qk S.keep.length ck ∧ w' = wd) (fun u w' => u = .int .i64 S.torn ∧ w' = wd) ?_ ?_ ?_ ?_ (fun v u => rfl) ?_
      · intro K hK
        go_wp2_with fail
      · rintro v w2 ⟨rfl, rfl⟩ K hK
        go_wp2_with fail
      · intro K hK
        go_wp2_with fail
      · rintro u w2 ⟨rfl, rfl⟩ K hK
        go_wp2_with fail
      · rintro v u w2 ⟨rfl, rfl, rfl⟩
        try simp only [Act.put, List.setIfInBounds_toArray, List.set_cons_zero, List.set_cons_succ]
        refine os_step (by kernel_rfl) (fun K hK => ?_)
        go_wp2_with fail
        refine HCR.out.mono ?_
        rintro e w3 ⟨rfl, ha⟩
        have HAF := Lib.hid ha
        obtain ⟨B', ⟨_, _, _, _, _, _, _, hhT, _⟩, _⟩ := ha
        have c4' := hhT.cellv (i := 4) (v := .bool T.off) rfl
        clear hhT HCR c6' c7' HH2
        go_wp2_with fail
        refine ⟨trivial, os_nil ?_⟩
        go_wp2_with fail
        go_ret
        exact ⟨rfl, HAF.out⟩
    · have e0 : powerS S = { S with left := S.left - 1 } := by unfold powerS; rw [if_pos hl, if_neg hl1]
      have k1 : (S.left - 1 == 0) = false := by simp; omega
      have k2 : ¬ S.left - 1 = 0 := by omega
      have HAF : Hid (After w g n B (powerS S) (w.setCell ⟨g, 5, none⟩ (.int .i64 (S.left - 1)))) := Lib.hid ⟨B, by rw [e0]; exact HA2.out, .inl rfl, HF2.out⟩
      have e2 : (powerS S).off = S.off := by rw [e0]
      rw [e2]
      clear hh h1 h2 h3 h4 hs5 hD0 hok hsm hl1 e0 HA2 HF2 HH2
      go_enter Tryd.func59, Tryd.ntmps59
      go_wp2_with fail
      go_ret
      exact ⟨rfl, HAF.out⟩
  · have e0 : powerS S = S := by unfold powerS; rw [if_neg hl]
    rw [e0]
    have HAF := Lib.hid (After.refl hD0)
    clear hh h1 h2 h3 h4 h5 hD0 hok hsm e0
    go_enter Tryd.func59, Tryd.ntmps59
    go_wp2_with fail
    go_ret
    exact ⟨rfl, HAF.out⟩
set_option maxHeartbeats 16000000 in
set_option maxRecDepth 100000 in
theorem sync_any (g n : Nat) (B : Option Nat) (S : DS) (hsm : Sm S) (hc : -9223372036854775808 ≤ S.count ∧ S.count < 9223372036854775807) (w : World) (hD : DiskAt w g n B S) :
    Calls Tryd.prog 26 #[.pointer (some ⟨g, 0, none⟩)] w fun e w' => e = .returned (.int .i64 (syncS S).2) ∧ After w g n B (syncS S).1 w' ∧ ((syncS S).2 = 0 → DiskAt w' g n none (syncS S).1) := by
  have HP := Lib.hid (power_any g n B S hsm w hD)
  have hcn := power_count S
  have HSY : Hid (syncS S = if (powerS S).off = true then (powerS S, 15) else ({ powerS S with lasts := (powerS S).now, waits := [], count := S.count + 1 }, 0)) := Lib.hid rfl
  generalize powerS S = T at *
  generalize syncS S = R at *
  clear hD hsm
  go_enter Tryd.func26, Tryd.ntmps26
  go_wp2_with fail
  refine HP.out.mono ?_
  rintro e w1 ⟨rfl, ha⟩
  have hs := HSY.out
  cases hoff : T.off with
  | true =>
    rw [hoff] at hs
    simp only [if_true] at hs
    have HA := Lib.hid ha
    clear ha
    go_wp2_with fail
    go_ret
    rw [hs]
    exact ⟨rfl, HA.out, fun h => by cases h⟩
  | false =>
    rw [if_neg (by rw [hoff]; simp)] at hs
    obtain ⟨B', hD1, hx, hf⟩ := ha
    have HD1 := Lib.hid hD1
    have HX := Lib.hid hx
    have HF := Lib.hid hf
    obtain ⟨_, _, hok, vn, vl, vw, vk, hh, h1, h2, h3, h4, h5⟩ := hD1
    obtain ⟨qn, nn, cn, rfl⟩ := h1.slice
    obtain ⟨ql, nl, cl, rfl⟩ := h2.slice
    obtain ⟨qw, nw, cw, rfl⟩ := h4.slice
    have c0 := hh.cellv (i := 0) (v := .slice qn nn cn) rfl
    have c1 := hh.cellv (i := 1) (v := .slice ql nl cl) rfl
    have c2 := hh.cellv (i := 2) (v := .slice qw nw cw) rfl
    have c8 := hh.cellv (i := 8) (v := .int .i64 T.count) rfl
    rw [hcn.1] at c8
    have f1 := hh.free 1
    have f2 := hh.free 2
    have f8 := hh.free 8
    have kc : IntKind.i64.wrap (S.count + 1) = S.count + 1 := by rw [IntWalk.i64_in _ (by omega)]
    have HAF : Hid (After w1 g n B' R.1 (((w1.setCell ⟨g, 1, none⟩ (.slice qn nn cn)).setCell ⟨g, 2, none⟩ (.slice none 0 0)).setCell ⟨g, 8, none⟩ (.int .i64 (S.count + 1))) ∧ DiskAt (((w1.setCell ⟨g, 1, none⟩ (.slice qn nn cn)).setCell ⟨g, 2, none⟩ (.slice none 0 0)).setCell ⟨g, 8, none⟩ (.int .i64 (S.count + 1))) g n none R.1) := Lib.hid (by
      rw [hs]
      have hq : KeepAt w1 n none vk T.keep := by
        obtain ⟨q, c, a, b, d⟩ := h5
        exact ⟨q, c, a, b, fun x hx hy => ⟨(d x hx hy).1, by simp, (d x hx hy).2.2⟩⟩
      have hz := disk_put HD1.out ((((Fr.refl _ w1).set1 1 (.slice qn nn cn)).set1 2 (.slice none 0 0)).set1 8 (.int .i64 (S.count + 1))) (S' := { T with lasts := T.now, waits := [], count := S.count + 1 }) ⟨hok.now, hok.now, hok.nowE, hok.nowE⟩ (((hh.put 1 _).put 2 _).put 8 _) h1 h1 (B' := none) rfl (ChgRow.nil _ _ _) hq
      exact ⟨⟨none, hz, .inr (.inl rfl), ((((Fr.refl (fun k => k = g) w1).set1 1 _).set1 2 _).set1 8 _).mono fun _ _ hk => .inl hk⟩, hz⟩)
    clear hh h1 h2 h3 h4 h5 hok hcn
    go_wp2_with fail
    go_ret
    refine ⟨by rw [hs]; rfl, After.trans HX.out HF.out HAF.out.1, fun _ => HAF.out.2⟩
end Go.Proofs.YtefamkckoikeoaaDoor
/- A change appended to what waits: where its row lies, what stands in its spare room. Condition: at most 100000 changes. -/
namespace Go.Proofs.YtefamkckoikeoaaDoor
open Go.RowKit
theorem zero_noT (n : Nat) : ∀ u ∈ (Builtin.zeroCells #[Value.int .i64 0, .string ⟨#[]⟩, .string ⟨#[]⟩, .slice none 0 0] n).toList, NoT u := by
  intro u hu
  unfold Builtin.zeroCells at hu
  simp only [Array.toList_map, List.mem_map] at hu
  obtain ⟨i, _, rfl⟩ := hu
  have h4 : i % 4 < 4 := Nat.mod_lt _ (by decide)
  have hs : (#[Value.int .i64 0, .string ⟨#[]⟩, .string ⟨#[]⟩, .slice none 0 0] : Array Value).size = 4 := rfl
  rw [hs]
  rcases (show i % 4 = 0 ∨ i % 4 = 1 ∨ i % 4 = 2 ∨ i % 4 = 3 by omega) with h | h | h | h <;> rw [h] <;> exact ⟨fun _ h => (by cases h), fun _ h => (by cases h)⟩
theorem act_noT {e : ActE} {q : Option Addr} {n c : Nat} (h : e.2.2.2.1 = .slice q n c) : ∀ u ∈ actC e, NoT u := by
  intro u hu
  simp only [actC, List.mem_cons, List.mem_nil_iff, or_false] at hu
  rcases hu with rfl | rfl | rfl | rfl
  · exact ⟨fun _ h => (by cases h), fun _ h => (by cases h)⟩
  · exact ⟨fun _ h => (by cases h), fun _ h => (by cases h)⟩
  · exact ⟨fun _ h => (by cases h), fun _ h => (by cases h)⟩
  · rw [h]; exact ⟨fun _ h => (by cases h), fun _ h => (by cases h)⟩
theorem append_noT {w w' : World} {n : Nat} {v v' : Value} {L : List ActE} {e : ActE} {gx : Nat} {ty : TypeId} (R : w.ownsRow n 47 4 v L.length (rowA L)) (hv : ∀ b, v.ownBlock = some b → Noty w b) (hc : Has w gx 47 (actC e)) (h1 : ∃ q k c, e.2.2.2.1 = .slice q k c) (hn : L.length ≤ 100000)
    (hr : (Builtin.append_ #[48, 48] ty #[v, .slice (some ⟨gx, 0, none⟩) 1 1]).run Tryd.prog w = .ok v' w') : ∀ b, v'.ownBlock = some b → Noty w' b := by
  obtain ⟨i0, hi, hz0, hz1, hz2⟩ := info_parts chg_info
  obtain ⟨qe, ke, ce, he⟩ := h1
  have hnews : ∀ j u, (actC e)[j]? = some u → w.cell? ((⟨gx, 0, none⟩ : Addr).add j) = some u := fun j u hj => by
    have e2 : (Addr.add ⟨gx, 0, none⟩ j) = ⟨gx, j, none⟩ := by unfold Addr.add; split <;> simp_all
    rw [e2]; exact hc.cellv hj
  have hone : ∀ u ∈ actC e, u.oneCell' = true := fun u hu => by
    simp only [actC, List.mem_cons, List.mem_nil_iff, or_false] at hu
    rcases hu with rfl | rfl | rfl | rfl
    · rfl
    · rfl
    · rfl
    · rw [he]; rfl
  have hT := act_noT he
  intro b hb
  rcases R.2 with ⟨rfl, h0⟩ | ⟨g, cap, cur, rfl, hbg, hg, hnc, hcm, hcs, htake⟩
  · have h := run_append_nil (P := Tryd.prog) w 48 ty 47 i0 _ Tryd.underlying48 hi hz0 ⟨gx, 0, none⟩ 1 1 (actC e) (by rw [hz1]; rfl) hnews (by omega) (by decide) (by rw [hz2]; omega)
    rw [hr] at h
    injection h with h2 h3
    subst h2 h3
    have hb' : w.heap.size = b := by simpa [Value.ownBlock] using hb
    subst hb'
    refine ⟨47, _, Has.made w.drew _ _, fun u hu => ?_⟩
    rw [Array.toList_append] at hu
    rcases List.mem_append.1 hu with hu | hu
    · exact hT u (by simpa using hu)
    · exact zero_noT _ u hu
  · obtain ⟨t0, cs0, hh0, hu0⟩ := hv g rfl
    have ecs : cs0 = cur.toList := by
      have h5 : w.heap[g]? = some (.cells cs0.toArray t0 (0, 0)) := hh0
      rw [hg] at h5
      have h6 := Option.some.inj h5
      rw [Obj.cells.injEq] at h6
      rw [h6.1]
    by_cases hroom : L.length + 1 ≤ cap
    · have h := run_append_room (P := Tryd.prog) w 48 ty 47 i0 Tryd.underlying48 hi g L.length cap cur hg ⟨gx, 0, none⟩ 1 1 (actC e) (by rw [hz1]; rfl) hnews hone hroom (by rw [hz1, hcs]; simp only [actC, List.length_cons, List.length_nil]; omega)
      rw [hr] at h
      injection h with h2 h3
      subst h2 h3
      have hb' : g = b := by simpa [Value.ownBlock] using hb
      subst hb'
      refine ⟨47, List.take (L.length * i0.size) cur.toList ++ actC e ++ List.drop (L.length * i0.size + (actC e).length) cur.toList, setRow_heap w g cur _ 47 (0, 0) hg, fun u hu => ?_⟩
      rcases List.mem_append.1 hu with hu | hu
      · rcases List.mem_append.1 hu with hu | hu
        · exact hu0 u (by rw [ecs]; exact List.mem_of_mem_take hu)
        · exact hT u hu
      · exact hu0 u (by rw [ecs]; exact List.mem_of_mem_drop hu)
    · have h := run_append_grow (P := Tryd.prog) w 48 ty 47 i0 _ Tryd.underlying48 hi hz0 ⟨g, 0, none⟩ L.length cap (rowA L) (by rw [hz1, rowA_len]; omega) (World.ownsRow.cells R (g := g) rfl) ⟨gx, 0, none⟩ 1 1 (actC e) (by rw [hz1]; rfl) hnews (by omega) (by omega) (by rw [hz2]; exact growslice_fits (by omega) (by omega))
      rw [hr] at h
      injection h with h2 h3
      subst h2 h3
      have hb' : w.heap.size = b := by simpa [Value.ownBlock] using hb
      subst hb'
      refine ⟨47, _, Has.made w.drew _ _, fun u hu => ?_⟩
      rw [Array.toList_append, Array.toList_append] at hu
      rcases List.mem_append.1 hu with hu | hu
      · rcases List.mem_append.1 hu with hu | hu
        · have hu' : u ∈ rowA L := by simpa using hu
          rw [← htake] at hu'
          exact hu0 u (by rw [ecs]; exact List.mem_of_mem_take hu')
        · exact hT u (by simpa using hu)
      · exact zero_noT _ u hu
/-- The operation, for a drawn region. -/
theorem wp_addW {o : Oper} {a : Act} {K : Act → World → Prop} {Q : Exit → Act → World → Prop} (sl x : Operand) (ho : o.op = .call { callee := .builtin .append, args := #[sl, x], argTypes := #[48, 48] }) {w : World} {n : Nat} {v : Value} {W : List Chg} (R : ChgRow w n 47 v W) (hbase : n ≤ w.heap.size)
    (hs : a.eval sl = v) (gx : Nat) (e : ActE) (hx : a.eval x = .slice (some ⟨gx, 0, none⟩) 1 1) (hc : Has w gx 47 (actC e)) (h1 : Bs w e.2.2.2.1 e.2.2.2.2) (hn : W.length ≤ 100000)
    (h : ∀ v' w', ChgRow w' n 47 v' (W ++ [strip e]) → w.grownBy w' v.ownBlock → (v'.ownBlock = v.ownBlock ∨ v'.ownBlock = some w.heap.size) → K (a.put o.dst v') w') : o.wp Tryd.prog a w K Q := by
  obtain ⟨i0, hi, hz0, hz1, hz2⟩ := info_parts chg_info
  obtain ⟨L, hL, hO, hB, hT⟩ := R
  have hLl : L.length ≤ 100000 := by rw [← hL, List.length_map] at hn; exact hn
  obtain ⟨qe, ce, he, _⟩ := id h1
  have hone : ∀ u ∈ actC e, u.oneCell' = true := fun u hu => by
    simp only [actC, List.mem_cons, List.mem_nil_iff, or_false] at hu
    rcases hu with rfl | rfl | rfl | rfl
    · rfl
    · rfl
    · rfl
    · rw [he]; rfl
  obtain ⟨v', w', hr, h2, h3, _, h5⟩ := run_append_own_at (P := Tryd.prog) w n 48 o.type 47 i0 _ 4 64 Tryd.underlying48 hi hz0 hz1 hz2 rfl (by decide) v L.length (rowA L) hO ⟨gx, 0, none⟩ 1 1 (actC e) rfl (fun j u hj => by
    have e2 : (Addr.add ⟨gx, 0, none⟩ j) = ⟨gx, j, none⟩ := by unfold Addr.add; split <;> simp_all
    rw [e2]; exact hc.cellv hj) hone (by unfold maxLen; omega) (by omega) hbase
  have h6 := append_noT hO hT hc ⟨_, _, _, he⟩ hLl hr
  have hfr : Fr (fun k => v.ownBlock = some k) w w' := ⟨h3.os, h3.tape, h3.output, h3.size, fun k hk hn => h3.block k hk (fun e => hn e.symm)⟩
  have hbx : ∀ k, k < w.heap.size → v.ownBlock = some k → Boxy w k := fun k _ hk => (hT k hk).boxy
  unfold Oper.wp execOp
  simp only [ho, resolve, invoke, builtin, Sem.run_bind, Sem.run_pure, Result.andThen_ok, List.map_toArray, List.map_cons, List.map_nil, hs, hx, hr]
  refine h v' w' ⟨L ++ [e], by rw [List.map_append, hL]; rfl, by rw [rowA_add, List.length_append]; exact h2, fun y hy => ?_, h6⟩ h3 h5
  rcases List.mem_append.1 hy with hy | hy
  · exact (hB y hy).fr hfr hbx
  · rw [List.mem_singleton.1 hy]; exact h1.fr hfr hbx
end Go.Proofs.YtefamkckoikeoaaDoor
/- Contract: package disk's copied: a tree's rows, all new. Conditions: at most 900 entries, each of at most 2^47 bytes. -/
namespace Go.Proofs.YtefamkckoikeoaaDoor
open Go.RowKit
theorem own_apart {w : World} {base n size g : Nat} {e t : TypeId} {v : Value} {xs l : List Value} (h : w.ownsRow base e size v n xs) (hg : Has w g t l) (hne : e ≠ t) (o : Nat) (u : Value) : (w.setCell ⟨g, o, none⟩ u).ownsRow base e size v n xs := by
  rcases h.2 with ⟨rfl, h0⟩ | ⟨g', cap, cur, rfl, hb, hg', h1, h2, h3, h4⟩
  · exact ⟨h.1, .inl ⟨rfl, h0⟩⟩
  · have hh : Has w g' e cur.toList := by unfold Has; simpa using hg'
    have h5 := hh.off (p := ⟨g, o, none⟩) (hh.apart hg hne) u
    unfold Has at h5
    exact ⟨h.1, .inr ⟨g', cap, cur, rfl, hb, by simpa using h5, h1, h2, h3, h4⟩⟩
theorem set_mid (A B : List Value) (x y : Value) (i : Nat) (h : i = A.length) : (A ++ x :: B).set i y = A ++ y :: B := by
  subst h; simp
theorem row_by {A B : List Ent} {e : Ent} {l : List Value} (v : Value) (b : List (BitVec 8)) : (rowC (A ++ e :: B) ++ l).set (A.length * 3 + 2) v = rowC (A ++ (e.1, e.2.1, v, b) :: B) ++ l := by
  rw [rowC_app, rowC_app, rowC_cons, rowC_cons]
  have h1 : rowC A ++ (entC e ++ rowC B) ++ l = (rowC A ++ [.string e.1, .bool e.2.1]) ++ e.2.2.1 :: (rowC B ++ l) := by simp [entC]
  have h2 : rowC A ++ (entC (e.1, e.2.1, v, b) ++ rowC B) ++ l = (rowC A ++ [.string e.1, .bool e.2.1]) ++ v :: (rowC B ++ l) := by simp [entC]
  rw [h1, h2]
  exact set_mid _ _ _ _ _ (by rw [List.length_append, rowC_len]; simp; omega)
set_option maxHeartbeats 8000000 in
set_option maxRecDepth 100000 in
theorem copied_any (C : List Ent) (q : Option Addr) (c : Nat) (hm : C.length ≤ 900) (hq : q = none → c = 0) (hlb : ∀ e ∈ C, e.by.length ≤ 140737488355328) (w : World) (hs : Sees w w.heap.size q (rowC C)) (hE : Ents w C) :
    Calls Tryd.prog 58 #[.agg #[.slice q C.length c]] w fun e w' => (∃ v, e = .returned (.agg #[v]) ∧ RdT w' v (era C)) ∧ Below w.heap.size w w' := by
  have HCL := Lib.hid (fun w1 (h : Below w.heap.size w w1) => tclone_any C q c (by omega) w1 hq ((hs.keep h).more h.size) (hE.keep h))
  have HE := Lib.hid hE
  have HLB := Lib.hid hlb
  have HB : Hid (Below w.heap.size w ((w.alloc (.cells #[.slice q C.length c] 25)).alloc (.cells #[.slice none 0 0] 25))) := Lib.hid (((Below.refl _ _).alloc (Nat.le_refl _) _).alloc (by simp) _)
  have HX : Hid (Has ((w.alloc (.cells #[.slice q C.length c] 25)).alloc (.cells #[.slice none 0 0] 25)) w.heap.size 25 [.slice q C.length c]) := Lib.hid ((Has.made w _ _).alloc _)
  have HY : Hid (Has ((w.alloc (.cells #[.slice q C.length c] 25)).alloc (.cells #[.slice none 0 0] 25)) (w.heap.size + 1) 25 [.slice none 0 0]) := Lib.hid (Has.made1 w _ _ _ _ rfl)
  have HSZ : Hid (w.heap.size + 2 ≤ ((w.alloc (.cells #[.slice q C.length c] 25)).alloc (.cells #[.slice none 0 0] 25)).heap.size) := Lib.hid (by simp)
  clear hs hE hq hlb
  have cx := HX.out.cellv (i := 0) (v := .slice q C.length c) rfl
  go_enter Tryd.func58, Tryd.ntmps58
  go_wp2_with fail
  clear cx
  generalize (w.alloc (.cells #[.slice q C.length c] 25)).alloc (.cells #[.slice none 0 0] 25) = w0 at *
  refine (HCL.out _ HB.out).mono ?_
  rintro e w1 ⟨⟨v, rfl, hO⟩, hb1⟩
  have hle0 := HB.out.size
  replace HX := Lib.hid (HX.out.keep hb1 HX.out.lt)
  replace HY := Lib.hid (HY.out.keep hb1 HY.out.lt)
  replace HB := Lib.hid (HB.out.trans (hb1.mono HB.out.size))
  obtain ⟨qv, cv, rfl, -, -, -⟩ := hO.tr
  have HO := Lib.hid hO
  clear hb1 hO
  generalize w0.heap.size = n0 at *
  have hn0 := HSZ.out
  go_wp2_with fail
  have KEEP : Hid (∀ wr, Below n0 w1 wr → Below w.heap.size w wr) := Lib.hid (fun wr h => HB.out.trans (h.mono hle0))
  go_loopw [4, 10] (fun _ vi wr => ∃ (i : Nat) (D : List Ent), i ≤ C.length ∧ vi = .int .i64 i ∧ D.length = i ∧ era D = era (C.take i) ∧ OwnT wr n0 (.slice qv C.length cv) (D ++ C.drop i) ∧ (∀ y ∈ D, OwnB wr n0 y) ∧ Below n0 w1 wr) (fun _ vi _ => C.length - (intOf vi).toNat)
  case atStart => exact ⟨0, [], by omega, rfl, rfl, rfl, HO.out, fun _ h => (by cases h), Below.refl _ _⟩
  case round =>
    rename_i wr
    obtain ⟨i, D, hi, rfl, hD, hera, hO, hBs, hB⟩ := hrel
    have HOR := Lib.hid hO
    have HBR := Lib.hid hB
    have HBS := Lib.hid hBs
    have HER := Lib.hid hera
    clear hO hB hBs hera
    by_cases hlt : i < C.length
    · have kk : (i : Int) < (C.length : Int) := by omega
      obtain ⟨e, he⟩ : ∃ e, C[i] = e := ⟨_, rfl⟩
      have hdr : C.drop i = e :: C.drop (i + 1) := by rw [List.drop_eq_getElem_cons hlt, he]
      have hem : e ∈ C := he ▸ List.getElem_mem hlt
      obtain ⟨qb, cb, hv, hcb, hqb, hsb⟩ := (HE.out e hem)
      have hlbe := HLB.out e hem
      rw [hdr] at HOR
      rcases HOR.out.has with ⟨_, h0⟩ | ⟨g, cap, l, hvg, hbg, hG, h1, h2, h3⟩
      · exact absurd h0 (by simp)
      have hlen : (D ++ e :: C.drop (i + 1)).length = C.length := by rw [← hdr, List.length_append, List.length_drop]; omega
      rw [hlen] at hvg h1 h3
      cases hvg
      have hcell : (rowC (D ++ e :: C.drop (i + 1)) ++ l)[i * 3 + 2]? = some e.2.2.1 := by
        have h4 := rowC_get (D ++ e :: C.drop (i + 1)) i (by rw [hlen]; exact hlt)
        rw [List.getElem?_append_left (by rw [rowC_len, hlen]; omega), h4.2.2]
        simp [hD]
      have hTK : C.take (i + 1) = C.take i ++ [e] := by rw [List.take_add_one, List.getElem?_eq_getElem hlt, he]; rfl
      obtain ⟨x, d, bv, bb⟩ := e
      have hv' : bv = .slice qb (List.length bb) cb := hv
      subst hv'
      have cg := hG.cellv hcell
      have HGH := Lib.hid hG
      have HBW := Lib.hid (KEEP.out wr HBR.out)
      have HBCL := Lib.hid (tbclone_any bb qb cb wr ((hsb.keep HBW.out).more HBW.out.size) hqb hlbe)
      have HN1 := Lib.hid (show n0 ≤ wr.heap.size by have := hG.lt; omega)
      have HDR := Lib.hid hdr
      clear hv hcb hqb hsb hlbe hcell hG he hdr hem
      go_wp2_with fail
      refine HBCL.out.mono ?_
      rintro e w2 ⟨⟨v2, rfl, hO2⟩, hb2⟩
      obtain ⟨q2, c2, hv2, _, _, _⟩ := Bs.own hO2
      subst hv2
      replace HGH := Lib.hid (HGH.out.keep hb2 HGH.out.lt)
      replace HBR := Lib.hid (HBR.out.trans (hb2.mono HN1.out))
      have HB2 : Hid (∀ y ∈ D, OwnB w2 n0 y) := Lib.hid (fun y hy => (HBS.out y hy).keep hb2)
      have HO2 := Lib.hid hO2
      clear cg hO2 hb2
      have cg := HGH.out.cellv (i := i * 3 + 2) (v := .slice qb bb.length cb) (by
        have h4 := rowC_get (D ++ (x, d, .slice qb bb.length cb, bb) :: C.drop (i + 1)) i (by rw [hlen]; exact hlt)
        rw [List.getElem?_append_left (by rw [rowC_len, hlen]; omega), h4.2.2]
        simp [hD])
      have fg := HGH.out.free (i * 3 + 2)
      go_wp2_with fail
      have hP : Has (w2.setCell ⟨g, i * 3 + 2, none⟩ (.slice q2 bb.length c2)) g 32 (rowC (D ++ (x, d, .slice q2 bb.length c2, bb) :: C.drop (i + 1)) ++ l) := by
        have h5 := HGH.out.put (i * 3 + 2) (.slice q2 bb.length c2)
        rw [← hD, row_by (e := (x, d, .slice qb bb.length cb, bb)) (.slice q2 bb.length c2) bb] at h5
        rw [← hD]; exact h5
      have hne : 5 ≠ 32 := by decide
      have hON : OwnT (w2.setCell ⟨g, i * 3 + 2, none⟩ (.slice q2 bb.length c2)) n0 (.slice (some ⟨g, 0, none⟩) C.length cv) ((D ++ [(x, d, .slice q2 bb.length c2, bb)]) ++ C.drop (i + 1)) := by
        rw [List.append_assoc, List.singleton_append]
        have h6 := OwnT.of (cap := cv) hbg hP (by rw [List.length_append, List.length_cons] at hlen ⊢; omega) h2 (by rw [List.length_append, List.length_cons] at hlen ⊢; omega)
        have e6 : (D ++ (x, d, .slice q2 bb.length c2, bb) :: C.drop (i + 1)).length = C.length := by rw [List.length_append, List.length_cons] at hlen ⊢; exact hlen
        rw [e6] at h6
        exact h6
      have hBN : ∀ y ∈ D ++ [(x, d, .slice q2 bb.length c2, bb)], OwnB (w2.setCell ⟨g, i * 3 + 2, none⟩ (.slice q2 bb.length c2)) n0 y := fun y hy => by
        rcases List.mem_append.1 hy with hy | hy
        · exact own_apart (HB2.out y hy) HGH.out hne _ _
        · rw [List.mem_singleton.1 hy]
          exact own_apart (OwnB.less (y := (x, d, .slice q2 bb.length c2, bb)) HO2.out HN1.out) HGH.out hne _ _
      have hBB : Below n0 w1 (w2.setCell ⟨g, i * 3 + 2, none⟩ (.slice q2 bb.length c2)) := HBR.out.setCell (p := ⟨g, _, none⟩) hbg _
      have hER : era (D ++ [(x, d, .slice q2 bb.length c2, bb)]) = era (C.take (i + 1)) := by
        rw [hTK]
        unfold era
        rw [List.map_append, List.map_append]
        have := HER.out
        unfold era at this
        rw [this]; rfl
      have hDL : (D ++ [((x, d, .slice q2 bb.length c2, bb) : Ent)]).length = i + 1 := by simp [hD]
      have HFIN := Lib.hid (And.intro hDL (And.intro hER (And.intro hON (And.intro hBN hBB))))
      clear hDL hER hON hBN hBB hP cg fg
      have kwi : IntKind.i64.wrap ((i : Int) + 1) = (i : Int) + 1 := by rw [IntWalk.i64_in _ (by omega)]
      go_wp2_with fail
      go_roundw
      case rel => exact ⟨i + 1, _, by omega, by go_num, HFIN.out.1, HFIN.out.2.1, HFIN.out.2.2.1, HFIN.out.2.2.2.1, HFIN.out.2.2.2.2⟩
      case measure => simp [intOf]; omega
    · have hil : i = C.length := by omega
      have k0 : ¬ (i : Int) < (C.length : Int) := by omega
      have hHY := HY.out.keep HBR.out (by omega)
      have cy := hHY.cellv (i := 0) (v := .slice none 0 0) rfl
      have fy := hHY.free 0
      have hdr : D ++ C.drop i = D := by rw [hil, List.drop_length, List.append_nil]
      rw [hdr] at HOR
      have hDn : D.length = C.length := by omega
      have HRD : Hid (RdT (wr.setCell ⟨w.heap.size + 1, 0, none⟩ (.slice qv C.length cv)) (.slice qv C.length cv) (era C)) := Lib.hid (by
        have h7 : OwnT (wr.setCell ⟨w.heap.size + 1, 0, none⟩ (.slice qv C.length cv)) n0 (.slice qv C.length cv) D := by
          have := (HOR.out).set (p := ⟨w.heap.size + 1, 0, none⟩) (by show w.heap.size + 1 < n0; omega) (.slice qv C.length cv)
          exact this
        refine ⟨D, ?_, h7.tr, fun y hy => (OwnB.set (HBS.out y hy) (by omega) _).bs⟩
        have := HER.out
        rw [hil, List.take_length] at this
        exact this)
      have HBF := Lib.hid ((KEEP.out wr HBR.out).setCell (p := ⟨w.heap.size + 1, 0, none⟩) (by show w.heap.size ≤ w.heap.size + 1; omega) (.slice qv C.length cv))
      clear hlt
      go_wp2_with fail
      have cz : (wr.setCell ⟨w.heap.size + 1, 0, none⟩ (.slice qv C.length cv)).cell? ⟨w.heap.size + 1, 0, none⟩ = some (.slice qv C.length cv) := World.cell?_setCell_same' _ _ _ (by rw [cy]; rfl)
      refine bodyPost_ret (by simp [results, Tryd.results58, go_sem, cz]; try rfl) rfl ?_
      exact ⟨⟨_, rfl, HRD.out⟩, HBF.out⟩
end Go.Proofs.YtefamkckoikeoaaDoor
/- Several ways through a region, joined in what all of them leave. No condition. -/
namespace Go.Proofs.YtefamkckoikeoaaDoor
open Go.RowKit
theorem wp_join {P : Program} {c : Code} {Q : Exit → Act → World → Prop} {a : Act} {w : World} (R : Act → Act → World → Prop) (h1 : c.wp P (fun x a' w' => x = .normal ∧ R a a' w') a w) (h2 : ∀ a' w', R a a' w' → Q .normal a' w') : c.wp P Q a w := by
  refine Code.wp_mono ?_ h1
  rintro x a' w' ⟨rfl, h⟩
  exact h2 a' w' h
end Go.Proofs.YtefamkckoikeoaaDoor
/- Contract: package disk's Do. Conditions: paths shorter than 2^61 bytes, at most 2^47 bytes, fewer than 100000 changes that wait. -/
namespace Go.Proofs.YtefamkckoikeoaaDoor
open Go.RowKit
theorem disk_put2 {w w' : World} {g n : Nat} (hg : g < n) (hn : n ≤ w.heap.size) (hbx : Boxy w g) (hf : Fr (fun k => k = g) w w') {S' : DS} (hok : S'.Ok) {vn vl vw vk : Value} (hh : Has w' g 100 (boxL S' vn vl vw vk)) (h1 : RdT w vn S'.now) (h2 : RdT w vl S'.lasts) {B' : Option Nat} (e : B' = vw.ownBlock) (h3 : ChgRow w n 47 vw S'.waits) (h4 : KeepAt w n B' vk S'.keep) : DiskAt w' g n B' S' := by
  have hb : ∀ k, k < w.heap.size → k = g → Boxy w k := fun k _ hk => hk ▸ hbx
  exact ⟨hg, Nat.le_trans hn hf.size, hok, vn, vl, vw, vk, hh, h1.fr hf hb, h2.fr hf hb, e, h3.fr hf hb fun k hk => by omega, h4.fr hf fun k hk => .inl (by omega)⟩
theorem power_wl (S : DS) : (powerS S).waits.length ≤ S.waits.length := by
  unfold powerS
  split
  · split
    · unfold crashS; split
      · exact Nat.le_refl _
      · exact Nat.zero_le _
    · exact Nat.le_refl _
  · exact Nat.le_refl _
theorem keep_app {w w' : World} {n : Nat} {B B' : Option Nat} {v : Value} {K : List Int} (h : KeepAt w n B v K) (hf : Fr (fun k => B = some k) w w') (hb : B' = B ∨ B' = some w.heap.size) : KeepAt w' n B' v K := by
  obtain ⟨q0, c0, h4, h5, h6⟩ := id h
  obtain ⟨q, c, h1, h2, h3⟩ := h.fr hf fun k hk => .inr (.inl hk.symm)
  have hq : q = q0 := by rw [h4] at h1; injection h1 with a _ _; exact a.symm
  subst hq
  refine ⟨q, c, h1, h2, fun a ha hk => ⟨(h3 a ha hk).1, ?_, (h3 a ha hk).2.2⟩⟩
  rcases hb with rfl | rfl
  · exact (h3 a ha hk).2.1
  · obtain ⟨a2, e2, hl, _⟩ := h5 (by simpa using List.length_pos_iff.2 hk)
    rw [ha] at e2; cases e2
    intro h7; injection h7 with h7; omega
noncomputable def chkDo3 : Array Oper := regOf Tryd.f22.body 3
noncomputable def chkDo10 : Array Oper := regOf Tryd.f22.body 10
set_option maxRecDepth 100000 in
theorem chkDo3_ok : flOk [(0, true), (1, true), (2, true), (3, true), (4, true), (5, false), (6, true), (7, true), (8, true)] 9 [(10, false), (11, true)] chkDo3 = true := by kernel_rfl
set_option maxRecDepth 100000 in
theorem chkDo10_ok : otcB [.inl (0, true), .inl (1, true), .inl (3, true), .inl (4, true), .inl (5, true), .inl (2, true), .inl (7, true), .inr (6, 8), .inl (9, false), .inl (10, true), .inl (11, true), .inl (12, false), .inl (13, true), .inl (14, true), .inl (15, false)] chkDo10 = true := by kernel_rfl
set_option maxHeartbeats 32000000 in
set_option maxRecDepth 100000 in
theorem do_any (g n : Nat) (B : Option Nat) (S : DS) (op : Int) (p t : ByteArray) (bb : List (BitVec 8)) (qb : Option Addr) (cb : Nat) (hp : p.size < 2305843009213693952) (ht : t.size < 2305843009213693952) (hbl : bb.length ≤ 140737488355328) (hcb : bb.length ≤ cb) (hqb : qb = none → cb = 0) (hsm : Sm S) (hwl : S.waits.length < 100000) (hc : -9223372036854775808 ≤ S.count ∧ S.count < 9223372036854775807)
    (w : World) (hD : DiskAt w g n B S) (hsb : Sees w w.heap.size qb (bb.map u8v)) :
    Calls Tryd.prog 22 #[.pointer (some ⟨g, 0, none⟩), .agg #[.int .i64 op, .string p, .string t, .slice qb bb.length cb]] w fun e w' => e = .returned (.int .i64 (doS S (op, p, t, bb)).2) ∧ After w g n B (doS S (op, p, t, bb)).1 w' := by
  have hb0 := (Below.refl w.heap.size w).alloc (Nat.le_refl _) (.cells #[.int .i64 op, .string p, .string t, .slice qb bb.length cb] 47)
  have HB0 := Lib.hid hb0
  have HD := Lib.hid hD
  have HA : Hid (Has (w.alloc (.cells #[.int .i64 op, .string p, .string t, .slice qb bb.length cb] 47)) w.heap.size 47 [.int .i64 op, .string p, .string t, .slice qb bb.length cb]) := Lib.hid (Has.made w _ _)
  have HP := Lib.hid (power_any g n B S hsm _ (hD.keep hb0))
  have HBS : Hid (Bs (w.alloc (.cells #[.int .i64 op, .string p, .string t, .slice qb bb.length cb] 47)) (.slice qb bb.length cb) bb) := Lib.hid ⟨qb, cb, rfl, hcb, hqb, (hsb.keep hb0).more hb0.size⟩
  have HQB := Lib.hid (And.intro hcb hqb)
  have HPT : Hid ((p.size < 2305843009213693952 ∧ t.size < 2305843009213693952) ∧ bb.length ≤ 140737488355328) := Lib.hid ⟨⟨hp, ht⟩, hbl⟩
  have hcn := power_count S
  have hTwl : (powerS S).waits.length < 100000 := Nat.lt_of_le_of_lt (power_wl S) hwl
  have HDO : Hid (doS S (op, p, t, bb) = if (powerS S).off = true then (powerS S, 15) else if (chE (powerS S).now (op, p, t, bb)).2 ≠ 0 then (powerS S, (chE (powerS S).now (op, p, t, bb)).2) else
    if S.quota < (bytesT (chE (powerS S).now (op, p, t, bb)).1 : Int) ∧ bytesT (powerS S).now < bytesT (chE (powerS S).now (op, p, t, bb)).1 then (powerS S, 9) else
    ({ powerS S with now := (chE (powerS S).now (op, p, t, bb)).1, waits := (powerS S).waits ++ [(op, p, t, bb)], count := S.count + 1 }, 0)) := Lib.hid rfl
  have HTO := Lib.hid hTwl
  generalize powerS S = T at *
  generalize doS S (op, p, t, bb) = R0 at *
  have HBXB : Hid (¬ Own g B w.heap.size) := Lib.hid (fun h => by
    rcases h with h | h
    · have := hD.lt; omega
    · have := (hD.boxyB h.symm).2.2; omega)
  have HOBX : Hid (∀ k, k < (w.alloc (.cells #[.int .i64 op, .string p, .string t, .slice qb bb.length cb] 47)).heap.size → Own g B k → Boxy (w.alloc (.cells #[.int .i64 op, .string p, .string t, .slice qb bb.length cb] 47)) k) := Lib.hid (fun k _ hk => by
    rcases hk with rfl | hk
    · exact (hD.keep hb0).boxy
    · exact ((hD.keep hb0).boxyB hk.symm).1)
  have HD0N : Hid (n ≤ w.heap.size) := Lib.hid hD.2.1
  have HBW0 : Hid (w.heap.size ≤ (w.alloc (.cells #[.int .i64 op, .string p, .string t, .slice qb bb.length cb] 47)).heap.size) := Lib.hid hb0.size
  clear hb0 hD hsb hqb hcb hp ht hbl hwl hTwl hsm
  go_enter Tryd.func22, Tryd.ntmps22
  go_wp2_with fail
  generalize w.alloc (.cells #[.int .i64 op, .string p, .string t, .slice qb bb.length cb] 47) = w0 at *
  refine HP.out.mono ?_
  rintro e w1 ⟨rfl, ha⟩
  have hs := HDO.out
  clear HP
  have HAFT : Hid (∀ R w', After w0 g n B R w' → After w g n B R w') := Lib.hid (fun R w' h => After.trans (.inl rfl) (Fr.of_below HB0.out) h)
  cases hoff : T.off with
  | true =>
    rw [if_pos hoff] at hs
    have HAF := Lib.hid (HAFT.out _ _ ha)
    clear ha
    go_wp2_with fail
    go_ret
    rw [hs]
    exact ⟨rfl, HAF.out⟩
  | false =>
    rw [if_neg (by rw [hoff]; simp)] at hs
    obtain ⟨B', hD1, hx, hf⟩ := ha
    have HX := Lib.hid hx
    have HF := Lib.hid hf
    have HD1 := Lib.hid hD1
    have hbx0 := HA.out.lt
    replace HA := Lib.hid (hf.has HBXB.out HA.out)
    replace HBS := Lib.hid (HBS.out.fr hf HOBX.out)
    have HNT : Hid (∀ k, w1.heap.size ≤ k → B' ≠ some k) := Lib.hid (fun k hk h => by have := (hD1.boxyB h).2.2; omega)
    have HBN : Hid (∀ b, B' = some b → g < b) := Lib.hid (fun b h => by have := (hD1.boxyB h).2.1; have := hD1.1; omega)
    have HBX1 : Hid (g ≠ w.heap.size ∧ B' ≠ some w.heap.size) := Lib.hid (by
      have h1 := HD.out.lt
      refine ⟨by omega, fun h => ?_⟩
      rcases hx with rfl | rfl | ⟨b, rfl, hb⟩
      · exact HBXB.out (.inr h.symm)
      · cases h
      · cases h; omega)
    clear HOBX HBXB HD hx hf
    have HAFT1 : Hid (∀ R w', After w1 g n B' R w' → After w g n B R w') := Lib.hid (fun R w' h => HAFT.out _ _ (After.trans HX.out HF.out h))
    obtain ⟨hgn, hnw, hok, vn, vl, vw, vk, hh, ⟨C, hC, ⟨qn, cn, rfl, hcn1, hqn, hsn⟩, hEn⟩, hl, hB', hW, hKp⟩ := hD1
    have hg : goodP C = true := by rw [← era_good, hC]; exact hok.now
    have HCH : Hid (∀ w2, Below w1.heap.size w1 w2 → Calls Tryd.prog 60 #[.agg #[.slice qn C.length cn], .agg #[.int .i64 op, .string p, .string t, .slice qb bb.length cb]] w2 fun e w' => (∃ v, e = .returned (.tuple #[.agg #[v], .int .i64 (chE T.now (op, p, t, bb)).2]) ∧ RdT w' v (chE T.now (op, p, t, bb)).1) ∧ Below w2.heap.size w2 w') := Lib.hid (fun w2 h => by
      obtain ⟨q2, c2, e2, _, _, h3⟩ := HBS.out
      cases e2
      obtain ⟨⟨hp, ht⟩, hbl⟩ := HPT.out
      have h6 := changed_any C qn cn hcn1 hqn hg op p t bb qb cb HQB.out.2 hp ht (by omega) w2 ((hsn.keep h).more h.size) (hEn.keep h) ((h3.keep h).more h.size)
      rw [hC] at h6
      exact h6)
    have HHH := Lib.hid hh
    have HYG : Hid (goodP (chE T.now (op, p, t, bb)).1 = true ∧ era (chE T.now (op, p, t, bb)).1 = (chE T.now (op, p, t, bb)).1) := Lib.hid ⟨chE_good hok.now _, chE_era _ _⟩
    obtain ⟨R3, hR3⟩ : ∃ R3, R3 = chE T.now (op, p, t, bb) := ⟨_, rfl⟩
    rw [← hR3] at hs HCH HYG
    obtain ⟨Y, E⟩ := R3
    simp only [] at hs HCH HYG
    have HBYN : Hid (∀ w2, Below w1.heap.size w1 w2 → Calls Tryd.prog 19 #[.agg #[.slice qn C.length cn]] w2 fun e w' => e = .returned (.int .i64 (bytesT T.now : Int)) ∧ Below w2.heap.size w2 w') := Lib.hid (fun w2 h => by
      obtain ⟨hm, hby, hna⟩ := good_small8 hg
      have h6 := tbytes_any C qn cn (by omega) hcn1 (by omega) (fun e he => by have := hna e he; omega) w2 ((hsn.keep h).more h.size) (hEn.keep h)
      have e7 : bytesP C = bytesT T.now := by unfold bytesP; rw [if_pos hg, ← hC, era_bytes]
      rw [e7] at h6
      exact h6)
    have HOK := Lib.hid hok
    have HL := Lib.hid hl
    have HW := Lib.hid hW
    have HK := Lib.hid hKp
    have HRN : Hid (RdT w1 (.slice qn C.length cn) T.now) := Lib.hid ⟨C, hC, ⟨qn, cn, rfl, hcn1, hqn, hsn⟩, hEn⟩
    have HB' := Lib.hid hB'
    have HS := Lib.hid hs
    have HGN := Lib.hid (And.intro hgn hnw)
    have HCN := Lib.hid hcn
    have HC := Lib.hid hc
    clear hh hl hW hKp hok hC hcn1 hqn hsn hEn hB' hR3 hg hs HDO hgn hnw hcn hc HAFT
    generalize hBXe : w.heap.size = BX at *
    have HBXE := Lib.hid hBXe
    clear hBXe
    go_wp2_with fail
    refine wp_join (fun a a' w' => ∃ x0 x1 x2 x3 x4 x5 x6 x7 x8 gT qx nx cx, a' = (((((((((((a.put (some 12) x0).put (some 13) x1).put (some 14) x2).put (some 15) x3).put (some 16) x4).put (some 17) x5).put (some 11) x6).put (some 18) x7).put (some 19) x8).put (some 5) (.pointer (some ⟨gT, 0, none⟩))).put (some 6) (.int .i64 E)) ∧ Below w1.heap.size w1 w' ∧ w1.heap.size ≤ gT ∧ Has w' gT 25 [.slice qx nx cx] ∧ RdT w' (.slice qx nx cx) Y) ?_ ?_
    · refine wp_region_fl [(0, true), (1, true), (2, true), (3, true), (4, true), (5, false), (6, true), (7, true), (8, true)] 9 [(10, false), (11, true)] _ rfl rfl (by kernel_rfl) (by kernel_rfl) _ chkDo3_ok rfl (fun w' => Below w1.heap.size w1 w') (Below.refl _ w1).drew ?_
      have HBD : Hid (Below w1.heap.size w1 w1.drew) := Lib.hid (Below.refl _ w1).drew
      have HZD : Hid (w1.drew.heap.size = w1.heap.size) := Lib.hid rfl
      generalize w1.drew = wd at *
      simp only [pickOrs, List.getElem?_cons_zero, List.getElem?_cons_succ]
      refine fl_pure (v := ?_) (by kernel_rfl) ?_ ?_
      rotate_left
      · intro w' hv; clear hv; go_simp; try with_reducible rfl
      try simp only [Act.put, List.setIfInBounds_toArray, List.set_cons_zero, List.set_cons_succ]
      refine fl_pure (v := ?_) (by kernel_rfl) ?_ ?_
      rotate_left
      · intro w' hv; clear hv; go_simp; try with_reducible rfl
      try simp only [Act.put, List.setIfInBounds_toArray, List.set_cons_zero, List.set_cons_succ]
      refine fl_pure (v := ?_) (by kernel_rfl) ?_ ?_
      rotate_left
      · intro w' hv; clear hv; go_simp; try with_reducible rfl
      try simp only [Act.put, List.setIfInBounds_toArray, List.set_cons_zero, List.set_cons_succ]
      refine fl_pure (v := ?_) (by kernel_rfl) ?_ ?_
      rotate_left
      · intro w' hv; have cx := (HHH.out.keep hv HHH.out.lt).cellv (i := 0) (v := .slice qn C.length cn) rfl; clear hv; go_simp; try with_reducible rfl
      try simp only [Act.put, List.setIfInBounds_toArray, List.set_cons_zero, List.set_cons_succ]
      refine fl_pure (by kernel_rfl) (fun w' hv => load_at 47 (.tmp 3) rfl BX rfl 47 _ w' (HA.out.keep hv HA.out.lt) _ Tryd.underlying47 rfl (by kernel_rfl)) ?_
      try simp only [Act.put, List.setIfInBounds_toArray, List.set_cons_zero, List.set_cons_succ]
      refine fl_step rfl (fun K hK => ?_) (fun K hK => ?_)
      · go_wp2_with fail
        refine (HCH.out _ HBD.out).mono ?_
        rintro e w3 ⟨⟨v, rfl, hR⟩, hb⟩
        obtain ⟨qy, ny, cy, rfl⟩ := hR.slice
        have HB3 := Lib.hid (HBD.out.trans (hb.mono HBD.out.size))
        refine hK _ _ ⟨HB3.out, ?_⟩
        have HR3 := Lib.hid hR
        clear hK hb hR
        try simp only [Act.put, List.setIfInBounds_toArray, List.set_cons_zero, List.set_cons_succ]
        refine fl_pure (v := ?_) (by kernel_rfl) ?_ ?_
        rotate_left
        · intro w' hv; clear hv; go_simp; try with_reducible rfl
        try simp only [Act.put, List.setIfInBounds_toArray, List.set_cons_zero, List.set_cons_succ]
        refine fl_pure (v := ?_) (by kernel_rfl) ?_ ?_
        rotate_left
        · intro w' hv; clear hv; go_simp; try with_reducible rfl
        try simp only [Act.put, List.setIfInBounds_toArray, List.set_cons_zero, List.set_cons_succ]
        refine fl_pure (v := ?_) (by kernel_rfl) ?_ ?_
        rotate_left
        · intro w' hv; clear hv; go_simp; try with_reducible rfl
        try simp only [Act.put, List.setIfInBounds_toArray, List.set_cons_zero, List.set_cons_succ]
        refine fl_nil (fun K hK => ?_)
        go_wp2_with fail
        have HG : Hid (Has (w3.alloc (.cells #[.slice none 0 0] 25)) w3.heap.size 25 [.slice none 0 0]) := Lib.hid (Has.made w3 _ _)
        have HGE : Hid (w1.heap.size ≤ w3.heap.size) := Lib.hid HB3.out.size
        replace HR3 := Lib.hid (HR3.out.keep ((Below.refl _ w3).alloc (Nat.le_refl _) (.cells #[.slice none 0 0] 25)))
        replace HB3 := Lib.hid (HB3.out.alloc HB3.out.size (.cells #[.slice none 0 0] 25))
        refine ⟨HB3.out, ?_⟩
        generalize w3.alloc (.cells #[.slice none 0 0] 25) = wo at *
        generalize w3.heap.size = BT at *
        try simp only [Act.put, List.setIfInBounds_toArray, List.set_cons_zero, List.set_cons_succ]
        have cg := HG.out.cellv (i := 0) (v := .slice none 0 0) rfl
        have fg := HG.out.free 0
        have HRF := Lib.hid (HR3.out.offC (x := .slice qy ny cy) HG.out)
        have HGF := Lib.hid (HG.out.put 0 (.slice qy ny cy))
        have HBF := Lib.hid (HB3.out.setCell (p := ⟨BT, 0, none⟩) HGE.out (.slice qy ny cy))
        refine ors_step (by kernel_rfl) (fun K hK => ?_)
        go_wp2_with fail
        refine ⟨HBF.out, ?_⟩
        try simp only [Act.put, List.setIfInBounds_toArray, List.set_cons_zero, List.set_cons_succ]
        refine ors_pure (v := ?_) (by kernel_rfl) ?_ ?_
        rotate_left
        · intro w' hv; clear hv; go_simp; try with_reducible rfl
        try simp only [Act.put, List.setIfInBounds_toArray, List.set_cons_zero, List.set_cons_succ]
        refine ors_nil ?_
        exact ⟨rfl, _, _, _, _, _, _, _, _, _, BT, qy, ny, cy, rfl, HBF.out, HGE.out, HGF.out, HRF.out⟩
      · go_wp2_with fail
        have HG : Hid (Has (wd.alloc (.cells #[.slice none 0 0] 25)) wd.heap.size 25 [.slice none 0 0]) := Lib.hid (Has.made wd _ _)
        have HGE : Hid (w1.heap.size ≤ wd.heap.size) := Lib.hid HBD.out.size
        have HB3 := Lib.hid (HBD.out.alloc HBD.out.size (.cells #[.slice none 0 0] 25))
        refine ⟨HB3.out, ?_⟩
        generalize wd.alloc (.cells #[.slice none 0 0] 25) = wm at *
        generalize wd.heap.size = BT at *
        try simp only [Act.put, List.setIfInBounds_toArray, List.set_cons_zero, List.set_cons_succ]
        refine ors_step (by kernel_rfl) (fun K hK => ?_)
        go_wp2_with fail
        refine (HCH.out _ HB3.out).mono ?_
        rintro e w3 ⟨⟨v, rfl, hR⟩, hb⟩
        obtain ⟨qy, ny, cy, rfl⟩ := hR.slice
        replace HG := Lib.hid (HG.out.keep hb HG.out.lt)
        replace HB3 := Lib.hid (HB3.out.trans (hb.mono HB3.out.size))
        refine hK _ _ ⟨HB3.out, ?_⟩
        have HR3 := Lib.hid hR
        clear hK hb hR
        try simp only [Act.put, List.setIfInBounds_toArray, List.set_cons_zero, List.set_cons_succ]
        refine ors_pure (v := ?_) (by kernel_rfl) ?_ ?_
        rotate_left
        · intro w' hv; clear hv; go_simp; try with_reducible rfl
        try simp only [Act.put, List.setIfInBounds_toArray, List.set_cons_zero, List.set_cons_succ]
        refine ors_pure (v := ?_) (by kernel_rfl) ?_ ?_
        rotate_left
        · intro w' hv; clear hv; go_simp; try with_reducible rfl
        try simp only [Act.put, List.setIfInBounds_toArray, List.set_cons_zero, List.set_cons_succ]
        refine ors_pure (v := ?_) (by kernel_rfl) ?_ ?_
        rotate_left
        · intro w' hv; clear hv; go_simp; try with_reducible rfl
        try simp only [Act.put, List.setIfInBounds_toArray, List.set_cons_zero, List.set_cons_succ]
        have cg := HG.out.cellv (i := 0) (v := .slice none 0 0) rfl
        have fg := HG.out.free 0
        have HRF := Lib.hid (HR3.out.offC (x := .slice qy ny cy) HG.out)
        have HGF := Lib.hid (HG.out.put 0 (.slice qy ny cy))
        have HBF := Lib.hid (HB3.out.setCell (p := ⟨BT, 0, none⟩) HGE.out (.slice qy ny cy))
        refine ors_step (by kernel_rfl) (fun K hK => ?_)
        go_wp2_with fail
        refine ⟨HBF.out, ?_⟩
        try simp only [Act.put, List.setIfInBounds_toArray, List.set_cons_zero, List.set_cons_succ]
        refine ors_pure (v := ?_) (by kernel_rfl) ?_ ?_
        rotate_left
        · intro w' hv; clear hv; go_simp; try with_reducible rfl
        try simp only [Act.put, List.setIfInBounds_toArray, List.set_cons_zero, List.set_cons_succ]
        refine ors_nil ?_
        exact ⟨rfl, _, _, _, _, _, _, _, _, _, BT, qy, ny, cy, rfl, HBF.out, HGE.out, HGF.out, HRF.out⟩
    rintro a' wa ⟨x0, x1, x2, x3, x4, x5, x6, x7, x8, gT, qx, nx, cx, rfl, hbw, hgT, hHT, hRY⟩
    try simp only [Act.put, List.setIfInBounds_toArray, List.set_cons_zero, List.set_cons_succ]
    have HBW := Lib.hid hbw
    have HGT := Lib.hid hgT
    have HT := Lib.hid hHT
    have HRY := Lib.hid hRY
    clear hbw hgT hHT hRY HCH
    by_cases hE : E = 0
    · subst hE
      have HBY : Hid (∀ w2, Below wa.heap.size wa w2 → Calls Tryd.prog 19 #[.agg #[.slice qx nx cx]] w2 fun e w' => e = .returned (.int .i64 (bytesT Y : Int)) ∧ Below w2.heap.size w2 w') := Lib.hid (fun w2 h => by
        obtain ⟨D, hD, ⟨q, c, e, h1, h2, h3⟩, hE⟩ := HRY.out
        cases e
        have hg : goodP D = true := by rw [← era_good, hD]; exact HYG.out.1
        obtain ⟨hm, hby, hna⟩ := good_small8 hg
        have h6 := tbytes_any D qx cx (by omega) h1 (by omega) (fun e he => by have := hna e he; omega) w2 ((h3.keep h).more h.size) (hE.keep h)
        have e7 : bytesP D = bytesT Y := by unfold bytesP; rw [if_pos hg, ← hD, era_bytes]
        rw [e7] at h6
        exact h6)
      have ct := HT.out.cellv (i := 0) (v := .slice qx nx cx) rfl
      go_wp2_with fail
      clear ct
      refine (HBY.out _ (Below.refl _ _)).mono ?_
      rintro e wb ⟨rfl, hb⟩
      clear HBY
      replace HBW := Lib.hid (HBW.out.trans (hb.mono HBW.out.size))
      replace HT := Lib.hid (HT.out.keep hb HT.out.lt)
      replace HRY := Lib.hid (HRY.out.keep hb)
      clear hb
      have c3 := (HHH.out.keep HBW.out HHH.out.lt).cellv (i := 3) (v := .int .i64 T.quota) rfl
      rw [HCN.out.2] at c3
      by_cases hq : S.quota < (bytesT Y : Int)
      · have c0 := (HHH.out.keep HBW.out HHH.out.lt).cellv (i := 0) (v := .slice qn C.length cn) rfl
        go_wp2_with fail
        clear c0 c3
        refine (HBYN.out _ HBW.out).mono ?_
        rintro e wc ⟨rfl, hb⟩
        clear HBYN
        replace HBW := Lib.hid (HBW.out.trans (hb.mono HBW.out.size))
        replace HT := Lib.hid (HT.out.keep hb HT.out.lt)
        replace HRY := Lib.hid (HRY.out.keep hb)
        clear hb
        by_cases hq2 : bytesT T.now < bytesT Y
        · have kq : (bytesT T.now : Int) < (bytesT Y : Int) := by omega
          have hs := HS.out
          rw [if_neg (by simp), if_pos ⟨hq, hq2⟩] at hs
          have HAF : Hid (After w g n B T wc) := Lib.hid (HAFT1.out _ _ ⟨B', HD1.out.keep HBW.out, .inl rfl, Fr.of_below HBW.out⟩)
          go_wp2_with fail
          go_ret
          rw [hs]
          exact ⟨rfl, HAF.out⟩
        · have kq : ¬ (bytesT T.now : Int) < (bytesT Y : Int) := by omega
          have hs := HS.out
          rw [if_neg (by simp), if_neg (fun h => hq2 h.2)] at hs
          have HSF := Lib.hid hs
          clear hs HS
          have a3 := (HA.out.keep HBW.out HA.out.lt).cellv (i := 3) (v := .slice qb bb.length cb) rfl
          obtain ⟨qx5, cx5, ex5, _, _, hsx5⟩ := HBS.out
          cases ex5
          have HCLN := Lib.hid (tbclone_any bb qb cb wc ((hsx5.keep HBW.out).more HBW.out.size) HQB.out.2 HPT.out.2)
          go_wp2_with fail
          refine HCLN.out.mono ?_
          rintro e we ⟨⟨v, rfl, hO⟩, hb⟩
          obtain ⟨q5, c5, rfl, _, _, _⟩ := Bs.own hO
          have HO := Lib.hid hO
          replace HBW := Lib.hid (HBW.out.trans (hb.mono HBW.out.size))
          replace HT := Lib.hid (HT.out.keep hb HT.out.lt)
          replace HRY := Lib.hid (HRY.out.keep hb)
          have HAE := Lib.hid (HA.out.keep HBW.out HA.out.lt)
          have HHE := Lib.hid (HHH.out.keep HBW.out HHH.out.lt)
          have HLE := Lib.hid (HL.out.keep HBW.out)
          have HWE := Lib.hid (HW.out.fr (X := fun _ => False) (Fr.of_below HBW.out) (fun _ _ h => h.elim) (fun _ h => h.elim))
          have HKE := Lib.hid (HK.out.fr (X := fun _ => False) (Fr.of_below HBW.out) (fun _ h => h.elim))
          clear a3 hsx5 HCLN hb hO
          have a3 := HAE.out.cellv (i := 3) (v := .slice qb bb.length cb) rfl
          have f3 := HAE.out.free 3
          have hFX : Fr (fun k => k = BX) we (we.setCell ⟨BX, 3, none⟩ (.slice q5 bb.length c5)) := (Fr.refl (fun k => k = BX) we).set1 3 _
          have hBX : ∀ k, k < we.heap.size → k = BX → Boxy we k := fun k _ hk => ⟨_, _, hk ▸ HAE.out, .inr (act_noT (e := (op, p, t, .slice qb bb.length cb, bb)) rfl)⟩
          have hgTg : gT ≠ g := by have := HGN.out; have := HGT.out; omega
          have hTne : gT ≠ BX := by have := HA.out.lt; have := HGT.out; omega
          have HF1 : Hid (Fr (fun k => k = BX) we (we.setCell ⟨BX, 3, none⟩ (.slice q5 bb.length c5))) := Lib.hid hFX
          have HA2 : Hid (Has (we.setCell ⟨BX, 3, none⟩ (.slice q5 bb.length c5)) BX 47 [.int .i64 op, .string p, .string t, .slice q5 bb.length c5]) := Lib.hid (HAE.out.put 3 (.slice q5 bb.length c5))
          have HT2 : Hid (Has (we.setCell ⟨BX, 3, none⟩ (.slice q5 bb.length c5)) gT 25 [.slice qx nx cx]) := Lib.hid (HT.out.off (p := ⟨BX, 3, none⟩) hTne _)
          have HH2 : Hid (Has (we.setCell ⟨BX, 3, none⟩ (.slice q5 bb.length c5)) g 100 (boxL T (.slice qn C.length cn) vl vw vk)) := Lib.hid (HHE.out.off (p := ⟨BX, 3, none⟩) HBX1.out.1 _)
          have HRY2 : Hid (RdT (we.setCell ⟨BX, 3, none⟩ (.slice q5 bb.length c5)) (.slice qx nx cx) Y) := Lib.hid (HRY.out.fr hFX hBX)
          have HL2 : Hid (RdT (we.setCell ⟨BX, 3, none⟩ (.slice q5 bb.length c5)) vl T.lasts) := Lib.hid (HLE.out.fr hFX hBX)
          have HW2 : Hid (ChgRow (we.setCell ⟨BX, 3, none⟩ (.slice q5 bb.length c5)) n 47 vw T.waits) := Lib.hid (HWE.out.fr2 hFX hBX (fun b hb he => HBX1.out.2 (by rw [HB'.out, hb, he])))
          have HK2 : Hid (KeepAt (we.setCell ⟨BX, 3, none⟩ (.slice q5 bb.length c5)) n B' vk T.keep) := Lib.hid (HKE.out.fr hFX (fun k hk => .inr (.inr (.inr ⟨_, _, hk ▸ HAE.out, by decide⟩))))
          have HBB : Hid (Bs (we.setCell ⟨BX, 3, none⟩ (.slice q5 bb.length c5)) (.slice q5 bb.length c5) bb) := Lib.hid ((Bs.own HO.out).fr hFX hBX)
          have HWR : Hid (Fr (Own g B) w (we.setCell ⟨BX, 3, none⟩ (.slice q5 bb.length c5))) := Lib.hid ((((Fr.of_below (by rw [HBXE.out]; exact HB0.out)).trans HF.out (fun _ _ h => h)).then_below HBW.out).trans hFX (fun k hk h => by have := HBXE.out; omega))
          clear hFX hBX HAE HHE HLE HWE HKE HF1 HO HT HRY HBW HL HW HK HRN HBS HHH HA
          go_wp2_with fail
          clear a3 f3
          generalize we.setCell ⟨BX, 3, none⟩ (.slice q5 bb.length c5) = wx at *
          have hbd := (Below.refl wx.heap.size wx).drew
          replace HWR := Lib.hid (HWR.out.then_below hbd)
          replace HA2 := Lib.hid (HA2.out.keep hbd HA2.out.lt)
          replace HT2 := Lib.hid (HT2.out.keep hbd HT2.out.lt)
          replace HH2 := Lib.hid (HH2.out.keep hbd HH2.out.lt)
          replace HRY2 := Lib.hid (HRY2.out.keep hbd)
          replace HL2 := Lib.hid (HL2.out.keep hbd)
          replace HW2 := Lib.hid (HW2.out.fr (X := fun _ => False) (Fr.of_below hbd) (fun _ _ h => h.elim) (fun _ h => h.elim))
          replace HK2 := Lib.hid (HK2.out.fr (X := fun _ => False) (Fr.of_below hbd) (fun _ h => h.elim))
          replace HBB := Lib.hid (HBB.out.keep hbd)
          clear hbd
          refine wp_region_os [.inl (0, true), .inl (1, true), .inl (3, true), .inl (4, true), .inl (5, true), .inl (2, true), .inl (7, true), .inr (6, 8), .inl (9, false), .inl (10, true), .inl (11, true), .inl (12, false), .inl (13, true), .inl (14, true), .inl (15, false)] _ chkDo10_ok rfl (by kernel_rfl) (by kernel_rfl) (fun w' => Has w' gT 25 [.slice qx nx cx] ∧ Has w' BX 47 [.int .i64 op, .string p, .string t, .slice q5 bb.length c5]) ⟨HT2.out, HA2.out⟩ ?_
          generalize wx.drew = wd at *
          simp only [pickOt, List.getElem?_cons_zero, List.getElem?_cons_succ]
          refine os_pure (v := ?_) (by kernel_rfl) ?_ ?_
          rotate_left
          · intro w' hv; clear hv; go_simp; try with_reducible rfl
          try simp only [Act.put, List.setIfInBounds_toArray, List.set_cons_zero, List.set_cons_succ]
          refine os_pure (v := ?_) (by kernel_rfl) ?_ ?_
          rotate_left
          · intro w' hv; clear hv; go_simp; try with_reducible rfl
          try simp only [Act.put, List.setIfInBounds_toArray, List.set_cons_zero, List.set_cons_succ]
          refine os_pure (v := ?_) (by kernel_rfl) ?_ ?_
          rotate_left
          · intro w' hv; clear hv; go_simp; try with_reducible rfl
          try simp only [Act.put, List.setIfInBounds_toArray, List.set_cons_zero, List.set_cons_succ]
          refine os_pure (v := ?_) (by kernel_rfl) ?_ ?_
          rotate_left
          · intro w' hv; clear hv; go_simp; try with_reducible rfl
          try simp only [Act.put, List.setIfInBounds_toArray, List.set_cons_zero, List.set_cons_succ]
          refine os_pure (v := ?_) (by kernel_rfl) ?_ ?_
          rotate_left
          · intro w' hv; clear hv; go_simp; try with_reducible rfl
          try simp only [Act.put, List.setIfInBounds_toArray, List.set_cons_zero, List.set_cons_succ]
          refine os_pure (v := ?_) (by kernel_rfl) ?_ ?_
          rotate_left
          · intro w' hv; have cx := hv.1.cellv (i := 0) (v := .slice qx nx cx) rfl; clear hv; go_simp; try with_reducible rfl
          try simp only [Act.put, List.setIfInBounds_toArray, List.set_cons_zero, List.set_cons_succ]
          refine os_pure (by kernel_rfl) (fun w' hv => load_at 47 (.tmp 3) rfl BX rfl 47 _ w' (hv.2) _ Tryd.underlying47 rfl (by kernel_rfl)) ?_
          try simp only [Act.put, List.setIfInBounds_toArray, List.set_cons_zero, List.set_cons_succ]
          obtain ⟨qw, nw, cw, rfl⟩ := HW2.out.slice
          have hb2 := (Below.refl wd.heap.size wd).alloc (Nat.le_refl _) (.cells #[.int .i64 op, .string p, .string t, .slice q5 bb.length c5] 47)
          have HX2 : Hid (Has (wd.alloc (.cells #[.int .i64 op, .string p, .string t, .slice q5 bb.length c5] 47)) wd.heap.size 47 (actC (op, p, t, .slice q5 bb.length c5, bb))) := Lib.hid (Has.made wd _ _)
          have HBA := Lib.hid hb2
          have cw2 := HH2.out.cellv (i := 2) (v := .slice qw nw cw) rfl
          refine os_two (fun v u w' => v = .slice qw nw cw ∧ u = .slice (some ⟨wd.heap.size, 0, none⟩) 1 1 ∧ w' = wd.alloc (.cells #[.int .i64 op, .string p, .string t, .slice q5 bb.length c5] 47)) (by kernel_rfl) (by kernel_rfl) (fun v => by kernel_rfl) (fun v => by kernel_rfl)
            (fun v w' => v = .slice qw nw cw ∧ w' = wd) (fun u w' => u = .slice (some ⟨wd.heap.size, 0, none⟩) 1 1 ∧ w' = wd.alloc (.cells #[.int .i64 op, .string p, .string t, .slice q5 bb.length c5] 47)) ?_ ?_ ?_ ?_ (fun v u => rfl) ?_
          · intro K hK
            go_wp2_with fail
            exact ⟨HT2.out, HA2.out⟩
          · rintro v w2 ⟨rfl, rfl⟩ K hK
            have hx1 := HT2.out.keep hb2 HT2.out.lt
            have hx2 := HA2.out.keep hb2 HA2.out.lt
            go_wp2_with fail
          · intro K hK
            have hx1 := HT2.out.keep hb2 HT2.out.lt
            have hx2 := HA2.out.keep hb2 HA2.out.lt
            go_wp2_with fail
          · rintro u w2 ⟨rfl, rfl⟩ K hK
            have hx1 := HT2.out.keep hb2 HT2.out.lt
            have hx2 := HA2.out.keep hb2 HA2.out.lt
            have cw3 := (HH2.out.keep hb2 HH2.out.lt).cellv (i := 2) (v := .slice qw nw cw) rfl
            go_wp2_with fail
          rintro v u w2 ⟨rfl, rfl, rfl⟩
          clear hb2 cw2
          replace HWR := Lib.hid (HWR.out.then_below HBA.out)
          replace HA2 := Lib.hid (HA2.out.keep HBA.out HA2.out.lt)
          replace HT2 := Lib.hid (HT2.out.keep HBA.out HT2.out.lt)
          replace HH2 := Lib.hid (HH2.out.keep HBA.out HH2.out.lt)
          replace HRY2 := Lib.hid (HRY2.out.keep HBA.out)
          replace HL2 := Lib.hid (HL2.out.keep HBA.out)
          replace HW2 := Lib.hid (HW2.out.fr (X := fun _ => False) (Fr.of_below HBA.out) (fun _ _ h => h.elim) (fun _ h => h.elim))
          replace HK2 := Lib.hid (HK2.out.fr (X := fun _ => False) (Fr.of_below HBA.out) (fun _ h => h.elim))
          replace HBB := Lib.hid (HBB.out.keep HBA.out)
          have HGX : Hid (wd.heap.size < (wd.alloc (.cells #[.int .i64 op, .string p, .string t, .slice q5 bb.length c5] 47)).heap.size) := Lib.hid HX2.out.lt
          have HNW : Hid (n ≤ (wd.alloc (.cells #[.int .i64 op, .string p, .string t, .slice q5 bb.length c5] 47)).heap.size) := Lib.hid (by have h1 := HWR.out.size; have h2 := HD0N.out; have h9 := HBXE.out; omega)
          generalize wd.alloc (.cells #[.int .i64 op, .string p, .string t, .slice q5 bb.length c5] 47) = wm at *
          generalize wd.heap.size = GX at *
          clear HBA
          try simp only [Act.put, List.setIfInBounds_toArray, List.set_cons_zero, List.set_cons_succ]
          refine os_step (by kernel_rfl) (fun K hK => ?_)
          refine wp_addW (.tmp 50) (.tmp 52) rfl HW2.out HNW.out rfl GX (op, p, t, .slice q5 bb.length c5, bb) rfl HX2.out HBB.out (by have := HTO.out; omega) ?_
          intro v' w4 hC hgr hat
          obtain ⟨qz, nz, cz, rfl⟩ := hC.slice
          have hfo : Fr (fun k => B' = some k) wm w4 := ⟨hgr.os, hgr.tape, hgr.output, hgr.size, fun k hk hn => hgr.block k hk (fun e => hn (HB'.out.trans e.symm))⟩
          have hbo : ∀ k, k < wm.heap.size → B' = some k → Boxy wm k := fun k _ hk => by
            obtain ⟨L, _, _, _, h10⟩ := HW2.out
            exact (h10 k (HB'.out.symm.trans hk)).boxy
          have HC4 := Lib.hid hC
          have HA4 := Lib.hid (hfo.has (fun h => HBX1.out.2 h) HA2.out)
          have HT4 := Lib.hid (hfo.has (fun h => HNT.out _ HGT.out h) HT2.out)
          have HH4 := Lib.hid (hfo.has (fun h => by have := HBN.out _ h; omega) HH2.out)
          have HR4 := Lib.hid (HRY2.out.fr hfo hbo)
          have HL4 := Lib.hid (HL2.out.fr hfo hbo)
          have hat' : (Value.slice qz nz cz).ownBlock = B' ∨ (Value.slice qz nz cz).ownBlock = some wm.heap.size := by rw [HB'.out]; exact hat
          have HK4 : Hid (KeepAt w4 n (Value.slice qz nz cz).ownBlock vk T.keep) := Lib.hid (keep_app HK2.out hfo hat')
          have HNX4 : Hid (Nx w B (Value.slice qz nz cz).ownBlock) := Lib.hid (by
            have h0 := HWR.out.size
            have h1 := HBW0.out
            have h9 := HBXE.out
            rcases hat' with h | h
            · rw [h]
              rcases HX.out with rfl | rfl | ⟨b, rfl, hb⟩
              · exact .inl rfl
              · exact .inr (.inl rfl)
              · exact .inr (.inr ⟨b, rfl, by omega⟩)
            · exact .inr (.inr ⟨_, h, h0⟩))
          have HF4 : Hid (Fr (Own g B) w w4) := Lib.hid (HWR.out.trans hfo (fun k hk h => by
            have h1 := HBW0.out
            have h9 := HBXE.out
            rcases HX.out with rfl | rfl | ⟨b, rfl, hb⟩
            · exact .inr h.symm
            · cases h
            · cases h; omega))
          refine hK _ _ ⟨⟨HT4.out, HA4.out⟩, ?_⟩
          clear hK hC hgr hat hfo hbo hat' HW2 HK2 HBB HX2 HA2 HT2 HH2 HRY2 HL2 HWR
          try simp only [Act.put, List.setIfInBounds_toArray, List.set_cons_zero, List.set_cons_succ]
          refine os_pure (v := ?_) (by kernel_rfl) ?_ ?_
          rotate_left
          · intro w' hv; clear hv; go_simp; try with_reducible rfl
          try simp only [Act.put, List.setIfInBounds_toArray, List.set_cons_zero, List.set_cons_succ]
          refine os_pure (v := ?_) (by kernel_rfl) ?_ ?_
          rotate_left
          · intro w' hv; clear hv; go_simp; try with_reducible rfl
          try simp only [Act.put, List.setIfInBounds_toArray, List.set_cons_zero, List.set_cons_succ]
          have c0 := HH4.out.cellv (i := 0) (v := .slice qn C.length cn) rfl
          have f0 := HH4.out.free 0
          have HT5 := Lib.hid (HT4.out.off (p := ⟨g, 0, none⟩) hgTg (.slice qx nx cx))
          have HA5 := Lib.hid (HA4.out.off (p := ⟨g, 0, none⟩) (Ne.symm HBX1.out.1) (.slice qx nx cx))
          have HH5 := Lib.hid (HH4.out.put 0 (.slice qx nx cx))
          refine os_step (by kernel_rfl) (fun K hK => ?_)
          go_wp2_with fail
          refine ⟨⟨HT5.out, HA5.out⟩, ?_⟩
          clear c0 f0
          try simp only [Act.put, List.setIfInBounds_toArray, List.set_cons_zero, List.set_cons_succ]
          refine os_pure (v := ?_) (by kernel_rfl) ?_ ?_
          rotate_left
          · intro w' hv; clear hv; go_simp; try with_reducible rfl
          try simp only [Act.put, List.setIfInBounds_toArray, List.set_cons_zero, List.set_cons_succ]
          refine os_pure (v := ?_) (by kernel_rfl) ?_ ?_
          rotate_left
          · intro w' hv; clear hv; go_simp; try with_reducible rfl
          try simp only [Act.put, List.setIfInBounds_toArray, List.set_cons_zero, List.set_cons_succ]
          have c2 := HH5.out.cellv (i := 2) (v := .slice qw nw cw) rfl
          have f2 := HH5.out.free 2
          have HT6 := Lib.hid (HT5.out.off (p := ⟨g, 2, none⟩) hgTg (.slice qz nz cz))
          have HA6 := Lib.hid (HA5.out.off (p := ⟨g, 2, none⟩) (Ne.symm HBX1.out.1) (.slice qz nz cz))
          have HH6 := Lib.hid (HH5.out.put 2 (.slice qz nz cz))
          refine os_step (by kernel_rfl) (fun K hK => ?_)
          go_wp2_with fail
          refine ⟨⟨HT6.out, HA6.out⟩, ?_⟩
          clear c2 f2
          try simp only [Act.put, List.setIfInBounds_toArray, List.set_cons_zero, List.set_cons_succ]
          refine os_nil ?_
          have c8 := HH6.out.cellv (i := 8) (v := .int .i64 T.count) rfl
          rw [HCN.out.1] at c8
          have f8 := HH6.out.free 8
          have kc : IntKind.i64.wrap (S.count + 1) = S.count + 1 := by rw [IntWalk.i64_in _ (by have := HC.out; omega)]
          have HAF : Hid (After w g n B R0.1 (((w4.setCell ⟨g, 0, none⟩ (.slice qx nx cx)).setCell ⟨g, 2, none⟩ (.slice qz nz cz)).setCell ⟨g, 8, none⟩ (.int .i64 (S.count + 1)))) := Lib.hid (by
            rw [HSF.out]
            have hbg : Boxy w4 g := ⟨_, _, HH4.out, .inl (box_noS ⟨_, _, _, rfl⟩ HL4.out.slice ⟨_, _, _, rfl⟩ HK4.out.slice)⟩
            have hfg : Fr (fun k => k = g) w4 (((w4.setCell ⟨g, 0, none⟩ (.slice qx nx cx)).setCell ⟨g, 2, none⟩ (.slice qz nz cz)).setCell ⟨g, 8, none⟩ (.int .i64 (S.count + 1))) := (((Fr.refl _ w4).set1 0 _).set1 2 _).set1 8 _
            have hok := HOK.out
            refine ⟨_, disk_put2 HGN.out.1 (by have h1 := HF4.out.size; have h2 := HD0N.out; have h9 := HBXE.out; omega) hbg hfg (S' := { T with now := Y, waits := T.waits ++ [(op, p, t, bb)], count := S.count + 1 }) ⟨HYG.out.1, hok.lasts, HYG.out.2, hok.lastsE⟩ (HH6.out.put 8 _) HR4.out HL4.out rfl HC4.out HK4.out, HNX4.out, HF4.out.trans hfg (fun _ _ h => .inl h)⟩)
          go_wp2_with fail
          go_ret
          rw [HSF.out]
          exact ⟨rfl, by rw [← HSF.out]; exact HAF.out⟩
      · skip
        have hs := HS.out
        rw [if_neg (by simp), if_neg (fun h => hq h.1)] at hs
        have HSF := Lib.hid hs
        clear hs HS
        have a3 := (HA.out.keep HBW.out HA.out.lt).cellv (i := 3) (v := .slice qb bb.length cb) rfl
        obtain ⟨qx5, cx5, ex5, _, _, hsx5⟩ := HBS.out
        cases ex5
        have HCLN := Lib.hid (tbclone_any bb qb cb wb ((hsx5.keep HBW.out).more HBW.out.size) HQB.out.2 HPT.out.2)
        go_wp2_with fail
        refine HCLN.out.mono ?_
        rintro e we ⟨⟨v, rfl, hO⟩, hb⟩
        obtain ⟨q5, c5, rfl, _, _, _⟩ := Bs.own hO
        have HO := Lib.hid hO
        replace HBW := Lib.hid (HBW.out.trans (hb.mono HBW.out.size))
        replace HT := Lib.hid (HT.out.keep hb HT.out.lt)
        replace HRY := Lib.hid (HRY.out.keep hb)
        have HAE := Lib.hid (HA.out.keep HBW.out HA.out.lt)
        have HHE := Lib.hid (HHH.out.keep HBW.out HHH.out.lt)
        have HLE := Lib.hid (HL.out.keep HBW.out)
        have HWE := Lib.hid (HW.out.fr (X := fun _ => False) (Fr.of_below HBW.out) (fun _ _ h => h.elim) (fun _ h => h.elim))
        have HKE := Lib.hid (HK.out.fr (X := fun _ => False) (Fr.of_below HBW.out) (fun _ h => h.elim))
        clear a3 hsx5 HCLN hb hO
        have a3 := HAE.out.cellv (i := 3) (v := .slice qb bb.length cb) rfl
        have f3 := HAE.out.free 3
        have hFX : Fr (fun k => k = BX) we (we.setCell ⟨BX, 3, none⟩ (.slice q5 bb.length c5)) := (Fr.refl (fun k => k = BX) we).set1 3 _
        have hBX : ∀ k, k < we.heap.size → k = BX → Boxy we k := fun k _ hk => ⟨_, _, hk ▸ HAE.out, .inr (act_noT (e := (op, p, t, .slice qb bb.length cb, bb)) rfl)⟩
        have hgTg : gT ≠ g := by have := HGN.out; have := HGT.out; omega
        have hTne : gT ≠ BX := by have := HA.out.lt; have := HGT.out; omega
        have HF1 : Hid (Fr (fun k => k = BX) we (we.setCell ⟨BX, 3, none⟩ (.slice q5 bb.length c5))) := Lib.hid hFX
        have HA2 : Hid (Has (we.setCell ⟨BX, 3, none⟩ (.slice q5 bb.length c5)) BX 47 [.int .i64 op, .string p, .string t, .slice q5 bb.length c5]) := Lib.hid (HAE.out.put 3 (.slice q5 bb.length c5))
        have HT2 : Hid (Has (we.setCell ⟨BX, 3, none⟩ (.slice q5 bb.length c5)) gT 25 [.slice qx nx cx]) := Lib.hid (HT.out.off (p := ⟨BX, 3, none⟩) hTne _)
        have HH2 : Hid (Has (we.setCell ⟨BX, 3, none⟩ (.slice q5 bb.length c5)) g 100 (boxL T (.slice qn C.length cn) vl vw vk)) := Lib.hid (HHE.out.off (p := ⟨BX, 3, none⟩) HBX1.out.1 _)
        have HRY2 : Hid (RdT (we.setCell ⟨BX, 3, none⟩ (.slice q5 bb.length c5)) (.slice qx nx cx) Y) := Lib.hid (HRY.out.fr hFX hBX)
        have HL2 : Hid (RdT (we.setCell ⟨BX, 3, none⟩ (.slice q5 bb.length c5)) vl T.lasts) := Lib.hid (HLE.out.fr hFX hBX)
        have HW2 : Hid (ChgRow (we.setCell ⟨BX, 3, none⟩ (.slice q5 bb.length c5)) n 47 vw T.waits) := Lib.hid (HWE.out.fr2 hFX hBX (fun b hb he => HBX1.out.2 (by rw [HB'.out, hb, he])))
        have HK2 : Hid (KeepAt (we.setCell ⟨BX, 3, none⟩ (.slice q5 bb.length c5)) n B' vk T.keep) := Lib.hid (HKE.out.fr hFX (fun k hk => .inr (.inr (.inr ⟨_, _, hk ▸ HAE.out, by decide⟩))))
        have HBB : Hid (Bs (we.setCell ⟨BX, 3, none⟩ (.slice q5 bb.length c5)) (.slice q5 bb.length c5) bb) := Lib.hid ((Bs.own HO.out).fr hFX hBX)
        have HWR : Hid (Fr (Own g B) w (we.setCell ⟨BX, 3, none⟩ (.slice q5 bb.length c5))) := Lib.hid ((((Fr.of_below (by rw [HBXE.out]; exact HB0.out)).trans HF.out (fun _ _ h => h)).then_below HBW.out).trans hFX (fun k hk h => by have := HBXE.out; omega))
        clear hFX hBX HAE HHE HLE HWE HKE HF1 HO HT HRY HBW HL HW HK HRN HBS HHH HA
        go_wp2_with fail
        clear a3 f3
        generalize we.setCell ⟨BX, 3, none⟩ (.slice q5 bb.length c5) = wx at *
        have hbd := (Below.refl wx.heap.size wx).drew
        replace HWR := Lib.hid (HWR.out.then_below hbd)
        replace HA2 := Lib.hid (HA2.out.keep hbd HA2.out.lt)
        replace HT2 := Lib.hid (HT2.out.keep hbd HT2.out.lt)
        replace HH2 := Lib.hid (HH2.out.keep hbd HH2.out.lt)
        replace HRY2 := Lib.hid (HRY2.out.keep hbd)
        replace HL2 := Lib.hid (HL2.out.keep hbd)
        replace HW2 := Lib.hid (HW2.out.fr (X := fun _ => False) (Fr.of_below hbd) (fun _ _ h => h.elim) (fun _ h => h.elim))
        replace HK2 := Lib.hid (HK2.out.fr (X := fun _ => False) (Fr.of_below hbd) (fun _ h => h.elim))
        replace HBB := Lib.hid (HBB.out.keep hbd)
        clear hbd
        refine wp_region_os [.inl (0, true), .inl (1, true), .inl (3, true), .inl (4, true), .inl (5, true), .inl (2, true), .inl (7, true), .inr (6, 8), .inl (9, false), .inl (10, true), .inl (11, true), .inl (12, false), .inl (13, true), .inl (14, true), .inl (15, false)] _ chkDo10_ok rfl (by kernel_rfl) (by kernel_rfl) (fun w' => Has w' gT 25 [.slice qx nx cx] ∧ Has w' BX 47 [.int .i64 op, .string p, .string t, .slice q5 bb.length c5]) ⟨HT2.out, HA2.out⟩ ?_
        generalize wx.drew = wd at *
        simp only [pickOt, List.getElem?_cons_zero, List.getElem?_cons_succ]
        refine os_pure (v := ?_) (by kernel_rfl) ?_ ?_
        rotate_left
        · intro w' hv; clear hv; go_simp; try with_reducible rfl
        try simp only [Act.put, List.setIfInBounds_toArray, List.set_cons_zero, List.set_cons_succ]
        refine os_pure (v := ?_) (by kernel_rfl) ?_ ?_
        rotate_left
        · intro w' hv; clear hv; go_simp; try with_reducible rfl
        try simp only [Act.put, List.setIfInBounds_toArray, List.set_cons_zero, List.set_cons_succ]
        refine os_pure (v := ?_) (by kernel_rfl) ?_ ?_
        rotate_left
        · intro w' hv; clear hv; go_simp; try with_reducible rfl
        try simp only [Act.put, List.setIfInBounds_toArray, List.set_cons_zero, List.set_cons_succ]
        refine os_pure (v := ?_) (by kernel_rfl) ?_ ?_
        rotate_left
        · intro w' hv; clear hv; go_simp; try with_reducible rfl
        try simp only [Act.put, List.setIfInBounds_toArray, List.set_cons_zero, List.set_cons_succ]
        refine os_pure (v := ?_) (by kernel_rfl) ?_ ?_
        rotate_left
        · intro w' hv; clear hv; go_simp; try with_reducible rfl
        try simp only [Act.put, List.setIfInBounds_toArray, List.set_cons_zero, List.set_cons_succ]
        refine os_pure (v := ?_) (by kernel_rfl) ?_ ?_
        rotate_left
        · intro w' hv; have cx := hv.1.cellv (i := 0) (v := .slice qx nx cx) rfl; clear hv; go_simp; try with_reducible rfl
        try simp only [Act.put, List.setIfInBounds_toArray, List.set_cons_zero, List.set_cons_succ]
        refine os_pure (by kernel_rfl) (fun w' hv => load_at 47 (.tmp 3) rfl BX rfl 47 _ w' (hv.2) _ Tryd.underlying47 rfl (by kernel_rfl)) ?_
        try simp only [Act.put, List.setIfInBounds_toArray, List.set_cons_zero, List.set_cons_succ]
        obtain ⟨qw, nw, cw, rfl⟩ := HW2.out.slice
        have hb2 := (Below.refl wd.heap.size wd).alloc (Nat.le_refl _) (.cells #[.int .i64 op, .string p, .string t, .slice q5 bb.length c5] 47)
        have HX2 : Hid (Has (wd.alloc (.cells #[.int .i64 op, .string p, .string t, .slice q5 bb.length c5] 47)) wd.heap.size 47 (actC (op, p, t, .slice q5 bb.length c5, bb))) := Lib.hid (Has.made wd _ _)
        have HBA := Lib.hid hb2
        have cw2 := HH2.out.cellv (i := 2) (v := .slice qw nw cw) rfl
        refine os_two (fun v u w' => v = .slice qw nw cw ∧ u = .slice (some ⟨wd.heap.size, 0, none⟩) 1 1 ∧ w' = wd.alloc (.cells #[.int .i64 op, .string p, .string t, .slice q5 bb.length c5] 47)) (by kernel_rfl) (by kernel_rfl) (fun v => by kernel_rfl) (fun v => by kernel_rfl)
          (fun v w' => v = .slice qw nw cw ∧ w' = wd) (fun u w' => u = .slice (some ⟨wd.heap.size, 0, none⟩) 1 1 ∧ w' = wd.alloc (.cells #[.int .i64 op, .string p, .string t, .slice q5 bb.length c5] 47)) ?_ ?_ ?_ ?_ (fun v u => rfl) ?_
        · intro K hK
          go_wp2_with fail
          exact ⟨HT2.out, HA2.out⟩
        · rintro v w2 ⟨rfl, rfl⟩ K hK
          have hx1 := HT2.out.keep hb2 HT2.out.lt
          have hx2 := HA2.out.keep hb2 HA2.out.lt
          go_wp2_with fail
        · intro K hK
          have hx1 := HT2.out.keep hb2 HT2.out.lt
          have hx2 := HA2.out.keep hb2 HA2.out.lt
          go_wp2_with fail
        · rintro u w2 ⟨rfl, rfl⟩ K hK
          have hx1 := HT2.out.keep hb2 HT2.out.lt
          have hx2 := HA2.out.keep hb2 HA2.out.lt
          have cw3 := (HH2.out.keep hb2 HH2.out.lt).cellv (i := 2) (v := .slice qw nw cw) rfl
          go_wp2_with fail
        rintro v u w2 ⟨rfl, rfl, rfl⟩
        clear hb2 cw2
        replace HWR := Lib.hid (HWR.out.then_below HBA.out)
        replace HA2 := Lib.hid (HA2.out.keep HBA.out HA2.out.lt)
        replace HT2 := Lib.hid (HT2.out.keep HBA.out HT2.out.lt)
        replace HH2 := Lib.hid (HH2.out.keep HBA.out HH2.out.lt)
        replace HRY2 := Lib.hid (HRY2.out.keep HBA.out)
        replace HL2 := Lib.hid (HL2.out.keep HBA.out)
        replace HW2 := Lib.hid (HW2.out.fr (X := fun _ => False) (Fr.of_below HBA.out) (fun _ _ h => h.elim) (fun _ h => h.elim))
        replace HK2 := Lib.hid (HK2.out.fr (X := fun _ => False) (Fr.of_below HBA.out) (fun _ h => h.elim))
        replace HBB := Lib.hid (HBB.out.keep HBA.out)
        have HGX : Hid (wd.heap.size < (wd.alloc (.cells #[.int .i64 op, .string p, .string t, .slice q5 bb.length c5] 47)).heap.size) := Lib.hid HX2.out.lt
        have HNW : Hid (n ≤ (wd.alloc (.cells #[.int .i64 op, .string p, .string t, .slice q5 bb.length c5] 47)).heap.size) := Lib.hid (by have h1 := HWR.out.size; have h2 := HD0N.out; have h9 := HBXE.out; omega)
        generalize wd.alloc (.cells #[.int .i64 op, .string p, .string t, .slice q5 bb.length c5] 47) = wm at *
        generalize wd.heap.size = GX at *
        clear HBA
        try simp only [Act.put, List.setIfInBounds_toArray, List.set_cons_zero, List.set_cons_succ]
        refine os_step (by kernel_rfl) (fun K hK => ?_)
        refine wp_addW (.tmp 50) (.tmp 52) rfl HW2.out HNW.out rfl GX (op, p, t, .slice q5 bb.length c5, bb) rfl HX2.out HBB.out (by have := HTO.out; omega) ?_
        intro v' w4 hC hgr hat
        obtain ⟨qz, nz, cz, rfl⟩ := hC.slice
        have hfo : Fr (fun k => B' = some k) wm w4 := ⟨hgr.os, hgr.tape, hgr.output, hgr.size, fun k hk hn => hgr.block k hk (fun e => hn (HB'.out.trans e.symm))⟩
        have hbo : ∀ k, k < wm.heap.size → B' = some k → Boxy wm k := fun k _ hk => by
          obtain ⟨L, _, _, _, h10⟩ := HW2.out
          exact (h10 k (HB'.out.symm.trans hk)).boxy
        have HC4 := Lib.hid hC
        have HA4 := Lib.hid (hfo.has (fun h => HBX1.out.2 h) HA2.out)
        have HT4 := Lib.hid (hfo.has (fun h => HNT.out _ HGT.out h) HT2.out)
        have HH4 := Lib.hid (hfo.has (fun h => by have := HBN.out _ h; omega) HH2.out)
        have HR4 := Lib.hid (HRY2.out.fr hfo hbo)
        have HL4 := Lib.hid (HL2.out.fr hfo hbo)
        have hat' : (Value.slice qz nz cz).ownBlock = B' ∨ (Value.slice qz nz cz).ownBlock = some wm.heap.size := by rw [HB'.out]; exact hat
        have HK4 : Hid (KeepAt w4 n (Value.slice qz nz cz).ownBlock vk T.keep) := Lib.hid (keep_app HK2.out hfo hat')
        have HNX4 : Hid (Nx w B (Value.slice qz nz cz).ownBlock) := Lib.hid (by
          have h0 := HWR.out.size
          have h1 := HBW0.out
          have h9 := HBXE.out
          rcases hat' with h | h
          · rw [h]
            rcases HX.out with rfl | rfl | ⟨b, rfl, hb⟩
            · exact .inl rfl
            · exact .inr (.inl rfl)
            · exact .inr (.inr ⟨b, rfl, by omega⟩)
          · exact .inr (.inr ⟨_, h, h0⟩))
        have HF4 : Hid (Fr (Own g B) w w4) := Lib.hid (HWR.out.trans hfo (fun k hk h => by
          have h1 := HBW0.out
          have h9 := HBXE.out
          rcases HX.out with rfl | rfl | ⟨b, rfl, hb⟩
          · exact .inr h.symm
          · cases h
          · cases h; omega))
        refine hK _ _ ⟨⟨HT4.out, HA4.out⟩, ?_⟩
        clear hK hC hgr hat hfo hbo hat' HW2 HK2 HBB HX2 HA2 HT2 HH2 HRY2 HL2 HWR
        try simp only [Act.put, List.setIfInBounds_toArray, List.set_cons_zero, List.set_cons_succ]
        refine os_pure (v := ?_) (by kernel_rfl) ?_ ?_
        rotate_left
        · intro w' hv; clear hv; go_simp; try with_reducible rfl
        try simp only [Act.put, List.setIfInBounds_toArray, List.set_cons_zero, List.set_cons_succ]
        refine os_pure (v := ?_) (by kernel_rfl) ?_ ?_
        rotate_left
        · intro w' hv; clear hv; go_simp; try with_reducible rfl
        try simp only [Act.put, List.setIfInBounds_toArray, List.set_cons_zero, List.set_cons_succ]
        have c0 := HH4.out.cellv (i := 0) (v := .slice qn C.length cn) rfl
        have f0 := HH4.out.free 0
        have HT5 := Lib.hid (HT4.out.off (p := ⟨g, 0, none⟩) hgTg (.slice qx nx cx))
        have HA5 := Lib.hid (HA4.out.off (p := ⟨g, 0, none⟩) (Ne.symm HBX1.out.1) (.slice qx nx cx))
        have HH5 := Lib.hid (HH4.out.put 0 (.slice qx nx cx))
        refine os_step (by kernel_rfl) (fun K hK => ?_)
        go_wp2_with fail
        refine ⟨⟨HT5.out, HA5.out⟩, ?_⟩
        clear c0 f0
        try simp only [Act.put, List.setIfInBounds_toArray, List.set_cons_zero, List.set_cons_succ]
        refine os_pure (v := ?_) (by kernel_rfl) ?_ ?_
        rotate_left
        · intro w' hv; clear hv; go_simp; try with_reducible rfl
        try simp only [Act.put, List.setIfInBounds_toArray, List.set_cons_zero, List.set_cons_succ]
        refine os_pure (v := ?_) (by kernel_rfl) ?_ ?_
        rotate_left
        · intro w' hv; clear hv; go_simp; try with_reducible rfl
        try simp only [Act.put, List.setIfInBounds_toArray, List.set_cons_zero, List.set_cons_succ]
        have c2 := HH5.out.cellv (i := 2) (v := .slice qw nw cw) rfl
        have f2 := HH5.out.free 2
        have HT6 := Lib.hid (HT5.out.off (p := ⟨g, 2, none⟩) hgTg (.slice qz nz cz))
        have HA6 := Lib.hid (HA5.out.off (p := ⟨g, 2, none⟩) (Ne.symm HBX1.out.1) (.slice qz nz cz))
        have HH6 := Lib.hid (HH5.out.put 2 (.slice qz nz cz))
        refine os_step (by kernel_rfl) (fun K hK => ?_)
        go_wp2_with fail
        refine ⟨⟨HT6.out, HA6.out⟩, ?_⟩
        clear c2 f2
        try simp only [Act.put, List.setIfInBounds_toArray, List.set_cons_zero, List.set_cons_succ]
        refine os_nil ?_
        have c8 := HH6.out.cellv (i := 8) (v := .int .i64 T.count) rfl
        rw [HCN.out.1] at c8
        have f8 := HH6.out.free 8
        have kc : IntKind.i64.wrap (S.count + 1) = S.count + 1 := by rw [IntWalk.i64_in _ (by have := HC.out; omega)]
        have HAF : Hid (After w g n B R0.1 (((w4.setCell ⟨g, 0, none⟩ (.slice qx nx cx)).setCell ⟨g, 2, none⟩ (.slice qz nz cz)).setCell ⟨g, 8, none⟩ (.int .i64 (S.count + 1)))) := Lib.hid (by
          rw [HSF.out]
          have hbg : Boxy w4 g := ⟨_, _, HH4.out, .inl (box_noS ⟨_, _, _, rfl⟩ HL4.out.slice ⟨_, _, _, rfl⟩ HK4.out.slice)⟩
          have hfg : Fr (fun k => k = g) w4 (((w4.setCell ⟨g, 0, none⟩ (.slice qx nx cx)).setCell ⟨g, 2, none⟩ (.slice qz nz cz)).setCell ⟨g, 8, none⟩ (.int .i64 (S.count + 1))) := (((Fr.refl _ w4).set1 0 _).set1 2 _).set1 8 _
          have hok := HOK.out
          refine ⟨_, disk_put2 HGN.out.1 (by have h1 := HF4.out.size; have h2 := HD0N.out; have h9 := HBXE.out; omega) hbg hfg (S' := { T with now := Y, waits := T.waits ++ [(op, p, t, bb)], count := S.count + 1 }) ⟨HYG.out.1, hok.lasts, HYG.out.2, hok.lastsE⟩ (HH6.out.put 8 _) HR4.out HL4.out rfl HC4.out HK4.out, HNX4.out, HF4.out.trans hfg (fun _ _ h => .inl h)⟩)
        go_wp2_with fail
        go_ret
        rw [HSF.out]
        exact ⟨rfl, by rw [← HSF.out]; exact HAF.out⟩
    · have hs := HS.out
      rw [if_pos hE] at hs
      have HAF : Hid (After w g n B T wa) := Lib.hid (HAFT1.out _ _ ⟨B', HD1.out.keep HBW.out, .inl rfl, Fr.of_below HBW.out⟩)
      have kE : (E != 0) = true := by simpa using hE
      go_wp2_with fail
      go_ret
      rw [hs]
      exact ⟨rfl, HAF.out⟩
end Go.Proofs.YtefamkckoikeoaaDoor
/- Contracts: package disk's New, Fuse. Conditions: at most 2^40 places kept by a fuse. -/
namespace Go.Proofs.YtefamkckoikeoaaDoor
open Go.RowKit
def newS (X : List Ent) (quota : Int) : DS := { now := X, lasts := X, waits := [], quota := quota, off := false, left := 0, keep := [], torn := 0, count := 0 }
def newP (w : World) (G : Bool) (X : List Ent) (quota : Int) (e : Ending) (w' : World) : Prop := if G = true ∧ 0 ≤ quota ∧ quota ≤ 16384 then ∃ g, e = .returned (.tuple #[.pointer (some ⟨g, 0, none⟩), .int .i64 0]) ∧ w.heap.size ≤ g ∧ DiskAt w' g (g + 1) none (newS X quota) else e = .returned (.tuple #[.pointer none, .int .i64 1])
theorem new_sm (X : List Ent) (quota : Int) : Sm (newS X quota) := ⟨Nat.zero_le _, fun _ h => (by cases h), Nat.zero_le _, (show (0 : Int) ≤ 9223372036854775807 by decide)⟩
set_option maxHeartbeats 8000000 in
set_option maxRecDepth 100000 in
theorem new_any (C : List Ent) (q : Option Addr) (c : Nat) (quota : Int) (hcap : C.length ≤ c) (hm : C.length ≤ 100000) (hq : q = none → c = 0) (hb : bytesT C ≤ 2305843009213693952) (hn : ∀ e ∈ C, e.1.size < 9223372036854775808) (w : World) (hs : Sees w w.heap.size q (rowC C)) (hE : Ents w C) :
    Calls Tryd.prog 21 #[.agg #[.slice q C.length c], .int .i64 quota] w fun e w' =>
      newP w (goodP C) (era C) quota e w' ∧ Below w.heap.size w w' := by
  have hb0 := (Below.refl w.heap.size w).alloc (Nat.le_refl _) (.cells #[.slice q C.length c] 25)
  have HB0 := Lib.hid hb0
  have HX : Hid (Has (w.alloc (.cells #[.slice q C.length c] 25)) w.heap.size 25 [.slice q C.length c]) := Lib.hid (Has.made w _ _)
  have cx := HX.out.cellv (i := 0) (v := .slice q C.length c) rfl
  have HG := Lib.hid (tgood_any C q c hm hcap (by omega) hn _ ((hs.keep hb0).more hb0.size) (hE.keep hb0))
  have HCP : Hid (goodP C = true → ∀ w1, Below w.heap.size w w1 → Calls Tryd.prog 58 #[.agg #[.slice q C.length c]] w1 fun e w' => (∃ v, e = .returned (.agg #[v]) ∧ RdT w' v (era C)) ∧ Below w1.heap.size w1 w') := Lib.hid (fun hg w1 h => by
    obtain ⟨h1, _, _⟩ := good_small8 hg
    exact copied_any C q c (by omega) hq (fun e he => good_bytes hg e he) w1 ((hs.keep h).more h.size) (hE.keep h))
  have HOK : Hid (goodP C = true → (newS (era C) quota).Ok) := Lib.hid (fun hg => ⟨(era_good C).trans hg, (era_good C).trans hg, era_era C, era_era C⟩)
  clear hs hE hb0
  generalize era C = X at *
  generalize goodP C = G at *
  go_enter Tryd.func21, Tryd.ntmps21
  go_wp2_with fail
  clear cx
  generalize w.alloc (.cells #[.slice q C.length c] 25) = w0 at *
  refine HG.out.mono ?_
  rintro e w1 ⟨rfl, hb1⟩
  replace HX := Lib.hid (HX.out.keep hb1 HX.out.lt)
  replace HB0 := Lib.hid (HB0.out.trans (hb1.mono HB0.out.size))
  clear hb1 HG
  cases G with
  | false =>
    go_wp2_with fail
    refine bodyPost_ret (by simp [results, Tryd.results21, go_sem]; try rfl) rfl ?_
    exact ⟨by unfold newP; rw [if_neg (by simp)], HB0.out⟩
  | true =>
    by_cases hq0 : quota < 0
    · go_wp2_with fail
      refine bodyPost_ret (by simp [results, Tryd.results21, go_sem]; try rfl) rfl ?_
      exact ⟨by unfold newP; rw [if_neg (by omega)], HB0.out⟩
    by_cases hq1 : 16384 < quota
    · have k0 : ¬ quota < 0 := hq0
      go_wp2_with fail
      refine bodyPost_ret (by simp [results, Tryd.results21, go_sem]; try rfl) rfl ?_
      exact ⟨by unfold newP; rw [if_neg (by omega)], HB0.out⟩
    have k0 : ¬ quota < 0 := hq0
    have k1 : ¬ 16384 < quota := hq1
    have cx := HX.out.cellv (i := 0) (v := .slice q C.length c) rfl
    have hgood : (true = true ∧ 0 ≤ quota ∧ quota ≤ 16384) := ⟨rfl, by omega, by omega⟩
    have HQ := Lib.hid hgood
    have HO := Lib.hid (HOK.out rfl)
    have HC := Lib.hid (HCP.out rfl)
    clear HOK HCP hgood hq0 hq1
    go_wp2_with fail
    clear cx
    refine (HC.out _ HB0.out).mono ?_
    rintro e w2 ⟨⟨v, rfl, hR⟩, hb2⟩
    obtain ⟨x2, n2, c2, rfl⟩ := hR.slice
    replace HX := Lib.hid (HX.out.keep hb2 HX.out.lt)
    replace HB0 := Lib.hid (HB0.out.trans (hb2.mono HB0.out.size))
    have HR : Hid (RdT (w2.setCell ⟨w.heap.size, 0, none⟩ (.slice x2 n2 c2)) (.slice x2 n2 c2) X) := Lib.hid (hR.fr ((Fr.refl (fun k => k = w.heap.size) w2).set (fun _ => rfl) _) fun k _ hk => ⟨_, _, hk ▸ HX.out, .inl fun u hu => by rw [List.mem_singleton.1 hu]; exact ⟨fun _ h => (by cases h), fun _ h => (by cases h)⟩⟩)
    have cx := HX.out.cellv (i := 0) (v := .slice q C.length c) rfl
    have fx := HX.out.free 0
    have HB1 := Lib.hid (HB0.out.setCell (p := ⟨w.heap.size, 0, none⟩) (Nat.le_refl _) (.slice x2 n2 c2))
    have HX2 := Lib.hid (HX.out.put 0 (.slice x2 n2 c2))
    have cy := HX2.out.cellv (i := 0) (v := .slice x2 n2 c2) rfl
    clear hb2 hR HX HC HB0
    have HDF : Hid (DiskAt ((w2.setCell ⟨w.heap.size, 0, none⟩ (.slice x2 n2 c2)).alloc (.cells #[.slice x2 n2 c2, .slice x2 n2 c2, .slice none 0 0, .int .i64 quota, .bool false, .int .i64 0, .slice none 0 0, .int .i64 0, .int .i64 0] 100)) w2.heap.size (w2.heap.size + 1) none (newS X quota)) := Lib.hid (by
      have hb := (Below.refl _ (w2.setCell ⟨w.heap.size, 0, none⟩ (.slice x2 n2 c2))).alloc (Nat.le_refl _) (.cells #[.slice x2 n2 c2, .slice x2 n2 c2, .slice none 0 0, .int .i64 quota, .bool false, .int .i64 0, .slice none 0 0, .int .i64 0, .int .i64 0] 100)
      have hh := Has.made (w2.setCell ⟨w.heap.size, 0, none⟩ (.slice x2 n2 c2)) 100 #[.slice x2 n2 c2, .slice x2 n2 c2, .slice none 0 0, .int .i64 quota, .bool false, .int .i64 0, .slice none 0 0, .int .i64 0, .int .i64 0]
      rw [size_set] at hh
      exact ⟨Nat.lt_succ_self _, by simp, HO.out, _, _, _, _, hh, HR.out.keep hb, HR.out.keep hb, rfl, ChgRow.nil _ _ _, KeepAt.nil _ _ _⟩)
    have HBF := Lib.hid (HB1.out.alloc HB1.out.size (.cells #[.slice x2 n2 c2, .slice x2 n2 c2, .slice none 0 0, .int .i64 quota, .bool false, .int .i64 0, .slice none 0 0, .int .i64 0, .int .i64 0] 100))
    have HLE : Hid (w.heap.size ≤ w2.heap.size) := Lib.hid (by have := HB1.out.size; rw [size_set] at this; exact this)
    go_wp2_with fail
    refine bodyPost_ret (by simp [results, Tryd.results21, go_sem]; try rfl) rfl ?_
    exact ⟨by unfold newP; rw [if_pos ⟨rfl, HQ.out.2⟩]; exact ⟨_, rfl, HLE.out, HDF.out⟩, HBF.out⟩
theorem int_info : (Tryd.prog.info? 3).map (fun i => (i.zero, i.size, i.bytes)) = some (some (.int .i64 0), 1, 8) := by kernel_rfl
theorem one_rowI (C : List Int) : ∀ v ∈ C.map (Value.int .i64), v.oneCell' = true := fun v hv => by
  obtain ⟨x, _, rfl⟩ := List.mem_map.1 hv
  rfl
set_option maxHeartbeats 8000000 in
set_option maxRecDepth 100000 in
theorem cloneI_any (C : List Int) (q : Option Addr) (c : Nat) (hm : C.length ≤ 1000000) (w : World) (hq : q = none → c = 0) (hs : Sees w w.heap.size q (C.map (Value.int .i64))) :
    Calls Tryd.prog 64 #[.slice q C.length c] w fun e w' => (∃ v, e = .returned v ∧ w'.ownsRow w.heap.size 3 1 v C.length (C.map (Value.int .i64))) ∧ Below w.heap.size w w' := by
  have HS := Lib.hid hs
  have HO := Lib.hid (one_rowI C)
  have hn := run_eql_slice_nil (P := Tryd.prog) w 51 3 q C.length c Tryd.underlying51
  clear hs
  rcases q with _ | a
  · have hx0 : C = [] := by
      rcases C with _ | ⟨y, l⟩
      · rfl
      · obtain ⟨a, h1, _⟩ := HS.out.get (by simp)
        cases h1
    subst hx0
    obtain rfl := hq rfl
    simp only [Option.isNone_none, List.length_nil] at hn
    clear hq
    go_enter Tryd.func64, Tryd.ntmps64
    go_wp2_with fail
    go_ret
    exact ⟨⟨_, rfl, World.ownsRow_nil _ _ _ _⟩, Below.refl _ _⟩
  · clear hq
    simp only [Option.isNone_some] at hn
    obtain ⟨i0, hi, hz0, hz1, hz2⟩ := info_parts int_info
    have ho : (w.alloc (.cells #[] 3)).ownsRow w.heap.size 3 1 (.slice (some ⟨w.heap.size, 0, none⟩) 0 0) 0 [] := World.ownsRow_made w #[] 0 (Nat.le_refl _) (by unfold maxLen; omega) (by simp)
    have HOW := Lib.hid ho
    have HB : Hid (Below w.heap.size w (w.alloc (.cells #[] 3))) := Lib.hid ((Below.refl _ _).alloc (Nat.le_refl _) _)
    clear ho
    by_cases hz : C = []
    · subst hz
      simp only [List.length_nil] at hn
      go_enter Tryd.func64, Tryd.ntmps64
      go_wp2_with (at_builtin; refine wpList_append_own _ rfl _ _ 51 rfl w.heap.size 3 i0 _ 1 8 Tryd.underlying51 hi hz0 hz1 hz2 rfl (by decide) _ 0 [] rfl HOW.out a 0 c [] rfl rfl (fun j u hj => by simp at hj) (by simp) (by unfold maxLen; omega) (by decide) HB.out.size ?_; intro v' w' h1 h2 _; have H1 := Lib.hid h1; have H2 := Lib.hid (HB.out.grown h2 HB.out.size (fun k hk => by have := HOW.out.lt k hk; omega)); clear h1 h2)
      go_ret
      exact ⟨⟨_, rfl, H1.out⟩, H2.out⟩
    · obtain ⟨a', e, _, hc⟩ := HS.out.get (by rw [List.length_map]; have := List.length_pos_iff.2 hz; omega)
      cases e
      have HC : Hid (∀ j u, (C.map (Value.int .i64))[j]? = some u → (w.alloc (.cells #[] 3)).cell? (a.add j) = some u) := Lib.hid (fun j u hj => by
        obtain ⟨a', e, hb, hc⟩ := HS.out.get (by rw [List.length_map]; have := List.length_pos_iff.2 hz; omega)
        cases e
        exact (HB.out.cell (by rw [add_block]; exact hb)).trans (hc j u hj))
      clear hc hz
      go_enter Tryd.func64, Tryd.ntmps64
      go_wp2_with (at_builtin; refine wpList_append_own _ rfl _ _ 51 rfl w.heap.size 3 i0 _ 1 8 Tryd.underlying51 hi hz0 hz1 hz2 rfl (by decide) _ 0 [] rfl HOW.out a C.length c (C.map (Value.int .i64)) rfl (by simp) HC.out HO.out (by unfold maxLen; omega) (by omega) HB.out.size ?_; intro v' w' h1 h2 _; rw [Nat.zero_add, List.nil_append] at h1; have H1 := Lib.hid h1; have H2 := Lib.hid (HB.out.grown h2 HB.out.size (fun k hk => by have := HOW.out.lt k hk; omega)); clear h1 h2)
      go_ret
      exact ⟨⟨_, rfl, H1.out⟩, H2.out⟩
set_option maxHeartbeats 8000000 in
set_option maxRecDepth 100000 in
theorem fuse_any (g n : Nat) (B : Option Nat) (S : DS) (at_ : Int) (K_ : List Int) (qk : Option Addr) (ck : Nat) (torn : Int) (hm : K_.length ≤ 1000000) (hq : qk = none → ck = 0) (w : World) (hD : DiskAt w g n B S) (hs : Sees w w.heap.size qk (K_.map (Value.int .i64))) (hsg : ∀ a, qk = some a → K_ ≠ [] → a.block ≠ g) :
    Calls Tryd.prog 28 #[.pointer (some ⟨g, 0, none⟩), .int .i64 at_, .slice qk K_.length ck, .int .i64 torn] w fun e w' => e = .returned (.tuple #[]) ∧ After w g n B (fuseS S at_ K_ torn) w' := by
  have HD := Lib.hid hD
  have hD0 := hD
  obtain ⟨hgn, hnw, hok, vn, vl, vw, vk, hh, h1, h2, h3, h4, h5⟩ := hD
  obtain ⟨q6, n6, c6, rfl⟩ := h5.slice
  have c4 := hh.cellv (i := 4) (v := .bool S.off) rfl
  have c5 := hh.cellv (i := 5) (v := .int .i64 S.left) rfl
  have c6 := hh.cellv (i := 6) (v := .slice q6 n6 c6) rfl
  have c7 := hh.cellv (i := 7) (v := .int .i64 S.torn) rfl
  have f5 := hh.free 5
  have f6 := hh.free 6
  have f7 := hh.free 7
  cases hoff : S.off with
  | true =>
    have e0 : fuseS S at_ K_ torn = S := by unfold fuseS; rw [if_pos hoff]
    rw [e0]
    rw [hoff] at c4
    have HAF := Lib.hid (After.refl hD0)
    clear hh h1 h2 h3 h4 h5 hok hD0 hs e0
    go_enter Tryd.func28, Tryd.ntmps28
    go_wp2_with fail
    refine bodyPost_ret (v := .tuple #[]) (by simp [results, Tryd.results28, go_sem]; try rfl) rfl ?_
    exact ⟨rfl, HAF.out⟩
  | false =>
    rw [hoff] at c4
    have hf3 : Fr (fun k => k = g) w (((w.setCell ⟨g, 5, none⟩ (.int .i64 0)).setCell ⟨g, 6, none⟩ (.slice none 0 0)).setCell ⟨g, 7, none⟩ (.int .i64 0)) := (((Fr.refl _ w).set1 5 _).set1 6 _).set1 7 _
    have hq5 : KeepAt w n B (.slice none 0 0) [] := KeepAt.nil _ _ _
    have hz := disk_put hD0 hf3 (S' := { S with left := 0, keep := [], torn := 0 }) ⟨hok.now, hok.lasts, hok.nowE, hok.lastsE⟩ (((hh.put 5 _).put 6 _).put 7 _) h1 h2 h3 h4 hq5
    have HZ := Lib.hid hz
    have HF3 := Lib.hid hf3
    have hh3 : Has (((w.setCell ⟨g, 5, none⟩ (.int .i64 0)).setCell ⟨g, 6, none⟩ (.slice none 0 0)).setCell ⟨g, 7, none⟩ (.int .i64 0)) g 100 (boxL { S with left := 0, keep := [], torn := 0 } vn vl vw (.slice none 0 0)) := ((hh.put 5 _).put 6 _).put 7 _
    have HH3 := Lib.hid hh3
    have hb3 : Boxy w g := hD0.boxy
    have HR1 := Lib.hid (h1.fr hf3 (fun k _ hk => hk ▸ hb3))
    have HR2 := Lib.hid (h2.fr hf3 (fun k _ hk => hk ▸ hb3))
    have HR4 := Lib.hid (h4.fr hf3 (fun k _ hk => hk ▸ hb3) (fun k hk => by omega))
    have HB3 := Lib.hid h3
    have HGN := Lib.hid hgn
    by_cases hp : 0 < at_
    · have e0 : fuseS S at_ K_ torn = { S with left := at_, keep := K_, torn := torn } := by unfold fuseS; rw [if_neg (by rw [hoff]; simp), if_pos hp]
      rw [e0]
      have HOK := Lib.hid hok
      have HBB : Hid (∀ b, B = some b → b < w.heap.size) := Lib.hid (fun b h => (hD0.boxyB h).2.2)
      have HNW : Hid (n ≤ w.heap.size) := Lib.hid hnw
      have HSK : Hid (Sees (((w.setCell ⟨g, 5, none⟩ (.int .i64 0)).setCell ⟨g, 6, none⟩ (.slice none 0 0)).setCell ⟨g, 7, none⟩ (.int .i64 0)) w.heap.size qk (K_.map (Value.int .i64))) := Lib.hid (fun hl => by
        obtain ⟨a, e, hb, hc⟩ := hs hl
        have hk : K_ ≠ [] := fun h0 => by rw [h0] at hl; simp at hl
        refine ⟨a, e, hb, fun j u hu => (World.cell?_of_block ?_).trans (hc j u hu)⟩
        rw [add_block]
        exact hf3.block _ hb (hsg a e hk))
      have HQ := Lib.hid hq
      have HSZ : Hid ((((w.setCell ⟨g, 5, none⟩ (.int .i64 0)).setCell ⟨g, 6, none⟩ (.slice none 0 0)).setCell ⟨g, 7, none⟩ (.int .i64 0)).heap.size = w.heap.size) := Lib.hid (by simp)
      clear hh h1 h2 h3 h4 h5 hok hD0 hs e0 hf3 hq5 hz hh3 hb3 hgn hnw hoff hsg hq HD
      go_enter Tryd.func28, Tryd.ntmps28
      go_wp2_with fail
      clear c4 c5 c6 c7 f5 f6 f7
      generalize (((w.setCell ⟨g, 5, none⟩ (.int .i64 0)).setCell ⟨g, 6, none⟩ (.slice none 0 0)).setCell ⟨g, 7, none⟩ (.int .i64 0)) = wz at *
      replace HSK := Lib.hid (HSK.out.more (show w.heap.size ≤ wz.heap.size from by have h1 := HSZ.out; omega))
      have HCI := Lib.hid (cloneI_any K_ qk ck hm wz HQ.out HSK.out)
      refine HCI.out.mono ?_
      rintro e w3 ⟨⟨v, rfl, hO⟩, hb⟩
      have hK3 : KeepAt w3 n B v K_ := by
        rcases hO.2 with ⟨rfl, h0⟩ | ⟨g', cap, cur, rfl, hb', hg', h1, h2, h3, h4⟩
        · have : K_ = [] := List.eq_nil_of_length_eq_zero h0
          subst this
          exact KeepAt.nil _ _ _
        · refine ⟨_, cap, rfl, fun _ => ⟨_, rfl, (Array.getElem?_eq_some_iff.1 hg').1, World.ownsRow.cells hO (g := g') rfl⟩, fun a ha _ => ?_⟩
          cases ha
          refine ⟨by have h5 := HSZ.out; have h6 := HNW.out; show n ≤ g'; omega, fun h => ?_, cur.toList, by unfold Has; simpa using hg'⟩
          have h5 := HBB.out g' h.symm
          have h6 := HSZ.out
          omega
      obtain ⟨q8, n8, c8, rfl⟩ := hK3.slice
      replace HZ := Lib.hid (HZ.out.keep hb)
      replace HF3 := Lib.hid (HF3.out.then_below hb)
      replace HH3 := Lib.hid (HH3.out.keep hb HH3.out.lt)
      replace HR1 := Lib.hid (HR1.out.keep hb)
      replace HR2 := Lib.hid (HR2.out.keep hb)
      replace HR4 := Lib.hid (HR4.out.fr (X := fun _ => False) (Fr.of_below hb) (fun _ _ h => h.elim) (fun _ h => h.elim))
      have HK3 := Lib.hid hK3
      clear hb hO hK3 HCI HSK
      have c5 := HH3.out.cellv (i := 5) (v := .int .i64 0) rfl
      have c6 := HH3.out.cellv (i := 6) (v := .slice none 0 0) rfl
      have c7 := HH3.out.cellv (i := 7) (v := .int .i64 0) rfl
      have f5 := HH3.out.free 5
      have f6 := HH3.out.free 6
      have f7 := HH3.out.free 7
      have HAF : Hid (After w g n B { S with left := at_, keep := K_, torn := torn } (((w3.setCell ⟨g, 5, none⟩ (.int .i64 at_)).setCell ⟨g, 6, none⟩ (.slice q8 n8 c8)).setCell ⟨g, 7, none⟩ (.int .i64 torn))) := Lib.hid (by
        have hok := HOK.out
        refine After.trans (.inl rfl) (HF3.out.mono (Y := Own g B) fun _ _ hk => .inl hk) ?_
        exact after_put HZ.out ((((Fr.refl _ w3).set1 5 _).set1 6 _).set1 7 _) (S' := { S with left := at_, keep := K_, torn := torn }) ⟨hok.now, hok.lasts, hok.nowE, hok.lastsE⟩ (((HH3.out.put 5 _).put 6 _).put 7 _) HR1.out HR2.out HB3.out HR4.out HK3.out (.inl rfl))
      go_wp2_with fail
      refine bodyPost_end (v := .tuple #[]) (by simp [results, Tryd.results28, go_sem]; try rfl) rfl ?_
      exact ⟨rfl, HAF.out⟩
    · have e0 : fuseS S at_ K_ torn = { S with left := 0, keep := [], torn := 0 } := by unfold fuseS; rw [if_neg (by rw [hoff]; simp), if_neg hp]
      rw [e0]
      have HAF : Hid (After w g n B { S with left := 0, keep := [], torn := 0 } (((w.setCell ⟨g, 5, none⟩ (.int .i64 0)).setCell ⟨g, 6, none⟩ (.slice none 0 0)).setCell ⟨g, 7, none⟩ (.int .i64 0))) := Lib.hid ⟨B, hz, .inl rfl, hf3.mono fun _ _ hk => .inl hk⟩
      clear hh h1 h2 h3 h4 h5 hok hD0 hs e0 hf3 hq5 hz hh3 hb3 hgn hnw hoff
      go_enter Tryd.func28, Tryd.ntmps28
      go_wp2_with fail
      refine bodyPost_end (v := .tuple #[]) (by simp [results, Tryd.results28, go_sem]; try rfl) rfl ?_
      exact ⟨rfl, HAF.out⟩
end Go.Proofs.YtefamkckoikeoaaDoor
/- Contracts: package disk's Off, Count, On, Now, Lasts. No condition. -/
namespace Go.Proofs.YtefamkckoikeoaaDoor
open Go.RowKit
set_option maxHeartbeats 4000000 in
set_option maxRecDepth 100000 in
theorem off_any (g n : Nat) (B : Option Nat) (S : DS) (w : World) (hD : DiskAt w g n B S) :
    Calls Tryd.prog 29 #[.pointer (some ⟨g, 0, none⟩)] w fun e w' => e = .returned (.bool S.off) ∧ Below w.heap.size w w' := by
  obtain ⟨_, _, _, vn, vl, vw, vk, hh, _⟩ := hD
  have c4 := hh.cellv (i := 4) (v := .bool S.off) rfl
  clear hh
  go_enter Tryd.func29, Tryd.ntmps29
  go_wp2_with fail
  go_ret
  exact ⟨rfl, Below.refl _ _⟩
set_option maxHeartbeats 4000000 in
set_option maxRecDepth 100000 in
theorem count_any (g n : Nat) (B : Option Nat) (S : DS) (w : World) (hD : DiskAt w g n B S) :
    Calls Tryd.prog 30 #[.pointer (some ⟨g, 0, none⟩)] w fun e w' => e = .returned (.int .i64 S.count) ∧ Below w.heap.size w w' := by
  obtain ⟨_, _, _, vn, vl, vw, vk, hh, _⟩ := hD
  have c4 := hh.cellv (i := 8) (v := .int .i64 S.count) rfl
  clear hh
  go_enter Tryd.func30, Tryd.ntmps30
  go_wp2_with fail
  go_ret
  exact ⟨rfl, Below.refl _ _⟩
set_option maxHeartbeats 4000000 in
set_option maxRecDepth 100000 in
theorem on_any (g n : Nat) (B : Option Nat) (S : DS) (w : World) (hD : DiskAt w g n B S) :
    Calls Tryd.prog 27 #[.pointer (some ⟨g, 0, none⟩)] w fun e w' => e = .returned (.tuple #[]) ∧ After w g n B { S with off := false } w' := by
  have HD := Lib.hid hD
  obtain ⟨_, _, hok, vn, vl, vw, vk, hh, h1, h2, h3, h4, h5⟩ := hD
  have c4 := hh.cellv (i := 4) (v := .bool S.off) rfl
  have f4 := hh.free 4
  have HA : Hid (After w g n B { S with off := false } (w.setCell ⟨g, 4, none⟩ (.bool false))) := Lib.hid (after_put HD.out ((Fr.refl _ w).set1 4 _) (S' := { S with off := false }) ⟨hok.now, hok.lasts, hok.nowE, hok.lastsE⟩ (hh.put 4 (.bool false)) h1 h2 h3 h4 h5 (.inl rfl))
  clear hh h1 h2 h3 h4 h5 hok
  go_enter Tryd.func27, Tryd.ntmps27
  go_wp2_with fail
  refine bodyPost_end (v := .tuple #[]) (by simp [results, Tryd.results27, go_sem]; try rfl) rfl ?_
  exact ⟨rfl, HA.out⟩
set_option maxHeartbeats 4000000 in
set_option maxRecDepth 100000 in
theorem now_any (g n : Nat) (B : Option Nat) (S : DS) (w : World) (hD : DiskAt w g n B S) :
    Calls Tryd.prog 25 #[.pointer (some ⟨g, 0, none⟩)] w fun e w' => (∃ v, e = .returned (.agg #[v]) ∧ RdT w' v S.now) ∧ Below w.heap.size w w' := by
  have hlt := hD.lt
  obtain ⟨_, _, hok, vn, vl, vw, vk, hh, ⟨C, e, ⟨q, c, rfl, h1, h2, h3⟩, h4⟩, _⟩ := hD
  have hg : goodP C = true := by rw [← era_good, e]; exact hok.now
  obtain ⟨hm, hby, hna⟩ := good_small8 hg
  have HB := Lib.hid ((Below.refl w.heap.size w).alloc (Nat.le_refl _) (.cells #[.slice none 0 0] 25))
  have HX : Hid (Has (w.alloc (.cells #[.slice none 0 0] 25)) w.heap.size 25 [.slice none 0 0]) := Lib.hid (Has.made w _ _)
  have c0 := (hh.alloc (.cells #[.slice none 0 0] 25)).cellv (i := 0) (v := .slice q C.length c) rfl
  have HC := Lib.hid (copied_any C q c (by omega) h2 (fun e he => good_bytes hg e he) (w.alloc (.cells #[.slice none 0 0] 25)) ((h3.keep HB.out).more HB.out.size) (h4.keep HB.out))
  rw [e] at HC
  clear hh h1 h2 h3 h4 hok e hg hm hby hna hlt
  go_enter Tryd.func25, Tryd.ntmps25
  go_wp2_with fail
  generalize w.alloc (.cells #[.slice none 0 0] 25) = w0 at *
  refine HC.out.mono ?_
  rintro e w1 ⟨⟨v, rfl, hR⟩, hb1⟩
  obtain ⟨x2, n2, c2, rfl⟩ := hR.slice
  replace HX := Lib.hid (HX.out.keep hb1 HX.out.lt)
  replace HB := Lib.hid (HB.out.trans (hb1.mono HB.out.size))
  have HR : Hid (RdT (w1.setCell ⟨w.heap.size, 0, none⟩ (.slice x2 n2 c2)) (.slice x2 n2 c2) S.now) := Lib.hid (hR.fr ((Fr.refl (fun k => k = w.heap.size) w1).set (fun _ => rfl) _) fun k _ hk => ⟨_, _, hk ▸ HX.out, .inl fun u hu => by rw [List.mem_singleton.1 hu]; exact ⟨fun _ h => (by cases h), fun _ h => (by cases h)⟩⟩)
  have cy := HX.out.cellv (i := 0) (v := .slice none 0 0) rfl
  have fy := HX.out.free 0
  have hbz := Lib.hid (HB.out.setCell (p := ⟨w.heap.size, 0, none⟩) (Nat.le_refl _) (.slice x2 n2 c2))
  clear hb1 hR HX c0 HC
  go_wp2_with fail
  have cz : (w1.setCell ⟨w.heap.size, 0, none⟩ (.slice x2 n2 c2)).cell? ⟨w.heap.size, 0, none⟩ = some (.slice x2 n2 c2) := World.cell?_setCell_same' _ _ _ (by rw [cy]; rfl)
  refine bodyPost_ret (by simp [results, Tryd.results25, go_sem, cz]; try rfl) rfl ?_
  exact ⟨⟨_, rfl, HR.out⟩, hbz.out⟩
set_option maxHeartbeats 4000000 in
set_option maxRecDepth 100000 in
theorem lasts_any (g n : Nat) (B : Option Nat) (S : DS) (w : World) (hD : DiskAt w g n B S) :
    Calls Tryd.prog 39 #[.pointer (some ⟨g, 0, none⟩)] w fun e w' => (∃ v, e = .returned (.agg #[v]) ∧ RdT w' v S.lasts) ∧ Below w.heap.size w w' := by
  have hlt := hD.lt
  obtain ⟨_, _, hok, vn, vl, vw, vk, hh, _, ⟨C, e, ⟨q, c, rfl, h1, h2, h3⟩, h4⟩, _⟩ := hD
  have hg : goodP C = true := by rw [← era_good, e]; exact hok.lasts
  obtain ⟨hm, hby, hna⟩ := good_small8 hg
  have HB := Lib.hid ((Below.refl w.heap.size w).alloc (Nat.le_refl _) (.cells #[.slice none 0 0] 25))
  have HX : Hid (Has (w.alloc (.cells #[.slice none 0 0] 25)) w.heap.size 25 [.slice none 0 0]) := Lib.hid (Has.made w _ _)
  have c0 := (hh.alloc (.cells #[.slice none 0 0] 25)).cellv (i := 1) (v := .slice q C.length c) rfl
  have HC := Lib.hid (copied_any C q c (by omega) h2 (fun e he => good_bytes hg e he) (w.alloc (.cells #[.slice none 0 0] 25)) ((h3.keep HB.out).more HB.out.size) (h4.keep HB.out))
  rw [e] at HC
  clear hh h1 h2 h3 h4 hok e hg hm hby hna hlt
  go_enter Tryd.func39, Tryd.ntmps39
  go_wp2_with fail
  generalize w.alloc (.cells #[.slice none 0 0] 25) = w0 at *
  refine HC.out.mono ?_
  rintro e w1 ⟨⟨v, rfl, hR⟩, hb1⟩
  obtain ⟨x2, n2, c2, rfl⟩ := hR.slice
  replace HX := Lib.hid (HX.out.keep hb1 HX.out.lt)
  replace HB := Lib.hid (HB.out.trans (hb1.mono HB.out.size))
  have HR : Hid (RdT (w1.setCell ⟨w.heap.size, 0, none⟩ (.slice x2 n2 c2)) (.slice x2 n2 c2) S.lasts) := Lib.hid (hR.fr ((Fr.refl (fun k => k = w.heap.size) w1).set (fun _ => rfl) _) fun k _ hk => ⟨_, _, hk ▸ HX.out, .inl fun u hu => by rw [List.mem_singleton.1 hu]; exact ⟨fun _ h => (by cases h), fun _ h => (by cases h)⟩⟩)
  have cy := HX.out.cellv (i := 0) (v := .slice none 0 0) rfl
  have fy := HX.out.free 0
  have hbz := Lib.hid (HB.out.setCell (p := ⟨w.heap.size, 0, none⟩) (Nat.le_refl _) (.slice x2 n2 c2))
  clear hb1 hR HX c0 HC
  go_wp2_with fail
  have cz : (w1.setCell ⟨w.heap.size, 0, none⟩ (.slice x2 n2 c2)).cell? ⟨w.heap.size, 0, none⟩ = some (.slice x2 n2 c2) := World.cell?_setCell_same' _ _ _ (by rw [cy]; rfl)
  refine bodyPost_ret (by simp [results, Tryd.results39, go_sem, cz]; try rfl) rfl ?_
  exact ⟨⟨_, rfl, HR.out⟩, hbz.out⟩
end Go.Proofs.YtefamkckoikeoaaDoor
/- Contract: package disk's Waits. Condition: what waits is not large. -/
namespace Go.Proofs.YtefamkckoikeoaaDoor
open Go.RowKit
theorem one_rowA {w : World} {C : List ActE} (h : ∀ e ∈ C, Bs w e.2.2.2.1 e.2.2.2.2) : ∀ v ∈ rowA C, v.oneCell' = true := fun v hv => by
  obtain ⟨e, he, hv⟩ := List.mem_flatMap.1 hv
  obtain ⟨qb, cb, h1, _⟩ := h e he
  simp only [actC, List.mem_cons, List.mem_nil_iff, or_false] at hv
  rcases hv with rfl | rfl | rfl | rfl
  · rfl
  · rfl
  · rfl
  · rw [h1]; rfl
theorem OwnC.has {w : World} {base : Nat} {v : Value} {C : List ActE} (h : OwnC w base v C) : (v = .slice none 0 0 ∧ C = []) ∨ ∃ g cap l, v = .slice (some ⟨g, 0, none⟩) C.length cap ∧ base ≤ g ∧ Has w g 47 (rowA C ++ l) ∧ C.length ≤ cap ∧ cap ≤ maxLen ∧ 4 * C.length + l.length = cap * 4 := by
  rcases h.2 with ⟨rfl, h0⟩ | ⟨g, cap, cur, rfl, hb, hg, h1, h2, h3, h4⟩
  · exact .inl ⟨rfl, List.eq_nil_of_length_eq_zero h0⟩
  · refine .inr ⟨g, cap, cur.toList.drop (C.length * 4), rfl, hb, ?_, h1, h2, ?_⟩
    · unfold Has
      rw [hg, ← h4, List.take_append_drop]
    · have h3' : cur.toList.length = cap * 4 := by rw [← h3]; exact Array.length_toList
      rw [List.length_drop, h3']
      omega
theorem OwnC.of {w : World} {base g cap : Nat} {C : List ActE} {l : List Value} (hb : base ≤ g) (hg : Has w g 47 (rowA C ++ l)) (h1 : C.length ≤ cap) (h2 : cap ≤ maxLen) (h3 : 4 * C.length + l.length = cap * 4) : OwnC w base (.slice (some ⟨g, 0, none⟩) C.length cap) C := by
  refine ⟨by rw [rowA_len, Nat.mul_comm], .inr ⟨g, cap, (rowA C ++ l).toArray, rfl, hb, hg, h1, h2, ?_, ?_⟩⟩
  · rw [List.size_toArray, List.length_append, rowA_len]; omega
  · simp only []
    rw [List.take_left' (by rw [rowA_len, Nat.mul_comm])]
def OwnBA (w : World) (base : Nat) (y : ActE) : Prop := w.ownsRow base 5 1 y.2.2.2.1 y.2.2.2.2.length (y.2.2.2.2.map u8v)
theorem row_byA {A B : List ActE} {e : ActE} {l : List Value} (v : Value) (b : List (BitVec 8)) : (rowA (A ++ e :: B) ++ l).set (A.length * 4 + 3) v = rowA (A ++ (e.1, e.2.1, e.2.2.1, v, b) :: B) ++ l := by
  rw [rowA_app, rowA_app, rowA_cons, rowA_cons]
  have h1 : rowA A ++ (actC e ++ rowA B) ++ l = (rowA A ++ [.int .i64 e.1, .string e.2.1, .string e.2.2.1]) ++ e.2.2.2.1 :: (rowA B ++ l) := by simp [actC]
  have h2 : rowA A ++ (actC (e.1, e.2.1, e.2.2.1, v, b) ++ rowA B) ++ l = (rowA A ++ [.int .i64 e.1, .string e.2.1, .string e.2.2.1]) ++ v :: (rowA B ++ l) := by simp [actC]
  rw [h1, h2]
  exact set_mid _ _ _ _ _ (by rw [List.length_append, rowA_len]; simp; omega)
/-- A value reads as these changes. -/
def ChgS (w : World) (v : Value) (W : List Chg) : Prop := ∃ (L : List ActE) (q : Option Addr) (c : Nat), L.map strip = W ∧ v = .slice q L.length c ∧ Sees w w.heap.size q (rowA L) ∧ ∀ e ∈ L, Bs w e.2.2.2.1 e.2.2.2.2
set_option maxHeartbeats 1000000 in
set_option maxRecDepth 100000 in
theorem cclone_any (C : List ActE) (q : Option Addr) (c : Nat) (hm : C.length ≤ 1000000) (w : World) (hq : q = none → c = 0) (hs : Sees w w.heap.size q (rowA C)) (hE : ∀ e ∈ C, Bs w e.2.2.2.1 e.2.2.2.2) :
    Calls Tryd.prog 61 #[.slice q C.length c] w fun e w' => (∃ v, e = .returned v ∧ OwnC w' w.heap.size v C) ∧ Below w.heap.size w w' := by
  have HS := Lib.hid hs
  have HO := Lib.hid (one_rowA hE)
  have hn := run_eql_slice_nil (P := Tryd.prog) w 48 47 q C.length c Tryd.underlying48
  clear hs hE
  rcases q with _ | a
  · have hx0 : C = [] := by
      rcases C with _ | ⟨y, l⟩
      · rfl
      · obtain ⟨a, h1, _⟩ := HS.out.get (by rw [rowA_len]; simp)
        cases h1
    subst hx0
    obtain rfl := hq rfl
    simp only [Option.isNone_none, List.length_nil] at hn
    clear hq
    go_enter Tryd.func61, Tryd.ntmps61
    go_wp2_with fail
    go_ret
    exact ⟨⟨_, rfl, OwnC.nil _ _⟩, Below.refl _ _⟩
  · clear hq
    simp only [Option.isNone_some] at hn
    obtain ⟨i0, hi, hz0, hz1, hz2⟩ := info_parts chg_info
    have ho : (w.alloc (.cells #[] 47)).ownsRow w.heap.size 47 4 (.slice (some ⟨w.heap.size, 0, none⟩) 0 0) 0 [] := World.ownsRow_made w #[] 0 (Nat.le_refl _) (by unfold maxLen; omega) (by simp)
    have HOW := Lib.hid ho
    have HB : Hid (Below w.heap.size w (w.alloc (.cells #[] 47))) := Lib.hid ((Below.refl _ _).alloc (Nat.le_refl _) _)
    clear ho
    by_cases hz : C = []
    · subst hz
      simp only [List.length_nil] at hn
      go_enter Tryd.func61, Tryd.ntmps61
      go_wp2_with (at_builtin; refine wpList_append_own _ rfl _ _ 48 rfl w.heap.size 47 i0 _ 4 64 Tryd.underlying48 hi hz0 hz1 hz2 rfl (by decide) _ 0 [] rfl HOW.out a 0 c [] rfl rfl (fun j u hj => by simp at hj) (by simp) (by unfold maxLen; omega) (by decide) HB.out.size ?_; intro v' w' h1 h2 _; have H1 := Lib.hid h1; have H2 := Lib.hid (HB.out.grown h2 HB.out.size (fun k hk => by have := HOW.out.lt k hk; omega)); clear h1 h2)
      go_ret
      exact ⟨⟨_, rfl, H1.out⟩, H2.out⟩
    · obtain ⟨a', e, _, hc⟩ := HS.out.get (by rw [rowA_len]; have := List.length_pos_iff.2 hz; omega)
      cases e
      have HC : Hid (∀ j u, (rowA C)[j]? = some u → (w.alloc (.cells #[] 47)).cell? (a.add j) = some u) := Lib.hid (fun j u hj => by
        obtain ⟨a', e, hb, hc⟩ := HS.out.get (by rw [rowA_len]; have := List.length_pos_iff.2 hz; omega)
        cases e
        exact (HB.out.cell (by rw [add_block]; exact hb)).trans (hc j u hj))
      clear hc hz
      go_enter Tryd.func61, Tryd.ntmps61
      go_wp2_with (at_builtin; refine wpList_append_own _ rfl _ _ 48 rfl w.heap.size 47 i0 _ 4 64 Tryd.underlying48 hi hz0 hz1 hz2 rfl (by decide) _ 0 [] rfl HOW.out a C.length c (rowA C) rfl (by rw [rowA_len]; omega) HC.out HO.out (by unfold maxLen; omega) (by omega) HB.out.size ?_; intro v' w' h1 h2 _; rw [Nat.zero_add, List.nil_append] at h1; have H1 := Lib.hid h1; have H2 := Lib.hid (HB.out.grown h2 HB.out.size (fun k hk => by have := HOW.out.lt k hk; omega)); clear h1 h2)
      go_ret
      exact ⟨⟨_, rfl, H1.out⟩, H2.out⟩
set_option maxHeartbeats 8000000 in
set_option maxRecDepth 100000 in
theorem waits_any (g n : Nat) (B : Option Nat) (S : DS) (hsm : Sm S) (w : World) (hD : DiskAt w g n B S) :
    Calls Tryd.prog 23 #[.pointer (some ⟨g, 0, none⟩)] w fun e w' => (∃ v, e = .returned v ∧ ChgS w' v S.waits) ∧ Below w.heap.size w w' := by
  obtain ⟨_, _, _, vn, vl, vw, vk, hh, _, _, _, ⟨C, hC, h4, hE, _⟩, _⟩ := hD
  obtain ⟨q, c, rfl, hcap, hq, hs⟩ := own_seesC h4
  have hm : C.length ≤ 100000 := by have := hsm.1; rw [← hC, List.length_map] at this; exact this
  have hlb : ∀ e ∈ C, e.2.2.2.2.length ≤ 140737488355328 := fun e he => by
    have := hsm.2.1 (strip e) (by rw [← hC]; exact List.mem_map_of_mem he)
    exact this.2.2
  have HCL := Lib.hid (cclone_any C q c (by omega) w hq hs hE)
  have HE := Lib.hid hE
  have HLB := Lib.hid hlb
  have HCW := Lib.hid hC
  have c2 := hh.cellv (i := 2) (v := .slice q C.length c) rfl
  clear hs hE hq hlb h4 hh hC hcap hsm
  go_enter Tryd.func23, Tryd.ntmps23
  go_wp2_with fail
  clear c2
  refine HCL.out.mono ?_
  rintro e w1 ⟨⟨v, rfl, hO⟩, hb1⟩
  have HB := Lib.hid hb1
  obtain ⟨qv, cv, rfl, -, -, -⟩ := own_seesC hO
  have HO := Lib.hid hO
  clear hb1 hO
  have HBW0 : Hid (∀ {q : Option Addr} {l : List Value} {wr : World}, Sees w w.heap.size q l → Below w.heap.size w wr → Sees wr wr.heap.size q l) := Lib.hid (fun h h2 => (h.keep h2).more h2.size)
  have HBSS : Hid (∀ e ∈ C, ∃ q c, e.2.2.2.1 = .slice q e.2.2.2.2.length c ∧ e.2.2.2.2.length ≤ c ∧ (q = none → c = 0) ∧ Sees w w.heap.size q (e.2.2.2.2.map u8v)) := HE
  generalize hn0 : w.heap.size = n0 at *
  have HN0 := Lib.hid hn0
  clear hn0
  go_wp2_with fail
  go_loopw [4, 12] (fun _ vi wr => ∃ (i : Nat) (D : List ActE), i ≤ C.length ∧ vi = .int .i64 i ∧ D.length = i ∧ D.map strip = (C.take i).map strip ∧ OwnC wr n0 (.slice qv C.length cv) (D ++ C.drop i) ∧ (∀ y ∈ D, OwnBA wr n0 y) ∧ Below n0 w wr) (fun _ vi _ => C.length - (intOf vi).toNat)
  case atStart => exact ⟨0, [], by omega, rfl, rfl, rfl, HO.out, fun _ h => (by cases h), HB.out⟩
  case round =>
    rename_i wr
    obtain ⟨i, D, hi, rfl, hD, hera, hO, hBs, hB⟩ := hrel
    have HOR := Lib.hid hO
    have HBR := Lib.hid hB
    have HBS := Lib.hid hBs
    have HER := Lib.hid hera
    clear hO hB hBs hera
    by_cases hlt : i < C.length
    · have kk : (i : Int) < (C.length : Int) := by omega
      obtain ⟨e, he⟩ : ∃ e, C[i] = e := ⟨_, rfl⟩
      have hdr : C.drop i = e :: C.drop (i + 1) := by rw [List.drop_eq_getElem_cons hlt, he]
      have hem : e ∈ C := he ▸ List.getElem_mem hlt
      obtain ⟨qb, cb, hv, hcb, hqb, hsb⟩ := (HBSS.out e hem)
      have hlbe := HLB.out e hem
      rw [hdr] at HOR
      rcases HOR.out.has with ⟨_, h0⟩ | ⟨g, cap, l, hvg, hbg, hG, h1, h2, h3⟩
      · exact absurd h0 (by simp)
      have hlen : (D ++ e :: C.drop (i + 1)).length = C.length := by rw [← hdr, List.length_append, List.length_drop]; omega
      rw [hlen] at hvg h1 h3
      cases hvg
      have hcell : (rowA (D ++ e :: C.drop (i + 1)) ++ l)[i * 4 + 3]? = some e.2.2.2.1 := by
        have h4 := rowA_get (D ++ e :: C.drop (i + 1)) i (by rw [hlen]; exact hlt)
        rw [List.getElem?_append_left (by rw [rowA_len, hlen]; omega), h4.2.2.2]
        simp [hD]
      have hTK : C.take (i + 1) = C.take i ++ [e] := by rw [List.take_add_one, List.getElem?_eq_getElem hlt, he]; rfl
      obtain ⟨op, p, t, bv, bb⟩ := e
      have hv' : bv = .slice qb (List.length bb) cb := hv
      subst hv'
      have cg := hG.cellv hcell
      have HGH := Lib.hid hG
      have HBCL := Lib.hid (tbclone_any bb qb cb wr (HBW0.out hsb HBR.out) hqb hlbe)
      have HN1 := Lib.hid (show n0 ≤ wr.heap.size by have := hG.lt; omega)
      clear hv hcb hqb hsb hlbe hcell hG he hdr hem
      go_wp2_with fail
      refine HBCL.out.mono ?_
      rintro e w2 ⟨⟨v2, rfl, hO2⟩, hb2⟩
      obtain ⟨q2, c2, hv2, _, _, _⟩ := Bs.own hO2
      subst hv2
      replace HGH := Lib.hid (HGH.out.keep hb2 HGH.out.lt)
      replace HBR := Lib.hid (HBR.out.trans (hb2.mono HN1.out))
      have HB2 : Hid (∀ y ∈ D, OwnBA w2 n0 y) := Lib.hid (fun y hy => own_belowN (HBS.out y hy) hb2)
      have HO2 := Lib.hid hO2
      clear cg hO2 hb2
      have cg := HGH.out.cellv (i := i * 4 + 3) (v := .slice qb bb.length cb) (by
        have h4 := rowA_get (D ++ (op, p, t, .slice qb bb.length cb, bb) :: C.drop (i + 1)) i (by rw [hlen]; exact hlt)
        rw [List.getElem?_append_left (by rw [rowA_len, hlen]; omega), h4.2.2.2]
        simp [hD])
      have fg := HGH.out.free (i * 4 + 3)
      go_wp2_with fail
      have hP : Has (w2.setCell ⟨g, i * 4 + 3, none⟩ (.slice q2 bb.length c2)) g 47 (rowA (D ++ (op, p, t, .slice q2 bb.length c2, bb) :: C.drop (i + 1)) ++ l) := by
        have h5 := HGH.out.put (i * 4 + 3) (.slice q2 bb.length c2)
        rw [← hD, row_byA (e := (op, p, t, .slice qb bb.length cb, bb)) (.slice q2 bb.length c2) bb] at h5
        rw [← hD]; exact h5
      have hne : 5 ≠ 47 := by decide
      have hON : OwnC (w2.setCell ⟨g, i * 4 + 3, none⟩ (.slice q2 bb.length c2)) n0 (.slice (some ⟨g, 0, none⟩) C.length cv) ((D ++ [(op, p, t, .slice q2 bb.length c2, bb)]) ++ C.drop (i + 1)) := by
        rw [List.append_assoc, List.singleton_append]
        have h6 := OwnC.of (cap := cv) hbg hP (by rw [List.length_append, List.length_cons] at hlen ⊢; omega) h2 (by rw [List.length_append, List.length_cons] at hlen ⊢; omega)
        have e6 : (D ++ (op, p, t, .slice q2 bb.length c2, bb) :: C.drop (i + 1)).length = C.length := by rw [List.length_append, List.length_cons] at hlen ⊢; exact hlen
        rw [e6] at h6
        exact h6
      have hBN : ∀ y ∈ D ++ [((op, p, t, .slice q2 bb.length c2, bb) : ActE)], OwnBA (w2.setCell ⟨g, i * 4 + 3, none⟩ (.slice q2 bb.length c2)) n0 y := fun y hy => by
        rcases List.mem_append.1 hy with hy | hy
        · exact own_apart (HB2.out y hy) HGH.out hne _ _
        · rw [List.mem_singleton.1 hy]
          exact own_apart (World.ownsRow.less2 HO2.out HN1.out) HGH.out hne _ _
      have hBB : Below n0 w (w2.setCell ⟨g, i * 4 + 3, none⟩ (.slice q2 bb.length c2)) := HBR.out.setCell (p := ⟨g, _, none⟩) hbg _
      have hER : (D ++ [((op, p, t, .slice q2 bb.length c2, bb) : ActE)]).map strip = (C.take (i + 1)).map strip := by
        rw [hTK, List.map_append, List.map_append, HER.out]; rfl
      have hDL : (D ++ [((op, p, t, .slice q2 bb.length c2, bb) : ActE)]).length = i + 1 := by simp [hD]
      have HFIN := Lib.hid (And.intro hDL (And.intro hER (And.intro hON (And.intro hBN hBB))))
      clear hDL hER hON hBN hBB hP cg fg
      have kwi : IntKind.i64.wrap ((i : Int) + 1) = (i : Int) + 1 := by rw [IntWalk.i64_in _ (by omega)]
      go_wp2_with fail
      go_roundw
      case rel => exact ⟨i + 1, _, by omega, by go_num, HFIN.out.1, HFIN.out.2.1, HFIN.out.2.2.1, HFIN.out.2.2.2.1, HFIN.out.2.2.2.2⟩
      case measure => simp [intOf]; omega
    · have hil : i = C.length := by omega
      have k0 : ¬ (i : Int) < (C.length : Int) := by omega
      have hdr : D ++ C.drop i = D := by rw [hil, List.drop_length, List.append_nil]
      rw [hdr] at HOR
      have hDn : D.length = C.length := by omega
      have HRD : Hid (ChgS wr (.slice qv C.length cv) S.waits) := Lib.hid (by
        obtain ⟨q5, c5, e5, _, _, h5⟩ := own_seesC HOR.out
        refine ⟨D, q5, c5, ?_, e5, h5, fun y hy => Bs.own (HBS.out y hy)⟩
        have := HER.out
        rw [hil, List.take_length, HCW.out] at this
        exact this)
      clear hlt
      go_wp2_with fail
      go_ret
      exact ⟨⟨_, rfl, HRD.out⟩, by rw [HN0.out]; exact HBR.out⟩
end Go.Proofs.YtefamkckoikeoaaDoor
/- Contract: the law's awake. No condition. -/
namespace Go.Proofs.YtefamkckoikeoaaDoor
open Go.RowKit
def dXY : List (BitVec 8) := [120#8, 121#8]
noncomputable def awS : DS := (doS (newS [] 99) (1, pA, ⟨#[]⟩, dXY)).1
theorem aw_ok : (doS (newS [] 99) (1, pA, ⟨#[]⟩, dXY)).2 = 0 := by kernel_rfl
theorem aw_now : awS.now.length = 1 := by kernel_rfl
theorem aw_crash : (crashS awS [] (-1)).now.length = 0 := by kernel_rfl
theorem aw_off : (crashS awS [] (-1)).off = true := by kernel_rfl
theorem field_L (v : Value) (w : World) : (Instr.field 25 (.agg #[v]) 0).run Tryd.prog w = .ok v w := by kernel_rfl
theorem rdt_len {w : World} {v : Value} {X : List Ent} (h : RdT w v X) : ∃ q c, v = .slice q X.length c := by
  obtain ⟨C, e, ⟨q, c, h1, _⟩, _⟩ := h
  exact ⟨q, c, by rw [h1, ← e, era_len]⟩
theorem newP_ok {w w' : World} {X : List Ent} {quota : Int} {e : Ending} (h : newP w true X quota e w') (h0 : 0 ≤ quota) (h1 : quota ≤ 16384) : ∃ g, e = .returned (.tuple #[.pointer (some ⟨g, 0, none⟩), .int .i64 0]) ∧ w.heap.size ≤ g ∧ DiskAt w' g (g + 1) none (newS X quota) := by
  unfold newP at h; rwa [if_pos ⟨rfl, h0, h1⟩] at h
set_option maxHeartbeats 8000000 in
set_option maxRecDepth 100000 in
theorem awake9_any (w : World) : Calls Tryd.prog 20 #[] w fun e w' => e = .returned (.bool true) ∧ Below w.heap.size w w' := by
  have HN := Lib.hid (new_any [] none 0 99 (Nat.le_refl _) (by simp) (fun _ => rfl) (by simp [bytesT]) (fun _ h => by cases h) w (Sees.nil _ _ _) (fun _ h => by cases h))
  go_enter Tryd.func20, Tryd.ntmps20
  go_wp2_with fail
  refine HN.out.mono ?_
  rintro e w1 ⟨hn, hb⟩
  obtain ⟨g, rfl, hg, hd⟩ := newP_ok hn (by decide) (by decide)
  have HD := Lib.hid hd
  have HB := Lib.hid hb
  have HG := Lib.hid hg
  clear hn hd hb hg HN
  have hcv := conv_new w1 #[.int .u8 120, .int .u8 121] 2 2
  rw [show (#[Value.int .u8 120, .int .u8 121] : Array Value).size = 2 from rfl] at hcv
  have hb := (Below.refl w1.heap.size w1).alloc (Nat.le_refl _) (.cells #[.int .u8 120, .int .u8 121] 5 (2, 3))
  have HX : Hid (Sees (w1.alloc (.cells #[.int .u8 120, .int .u8 121] 5 (2, 3))) (w1.alloc (.cells #[.int .u8 120, .int .u8 121] 5 (2, 3))).heap.size (some ⟨w1.heap.size, 0, none⟩) (dXY.map u8v)) := Lib.hid (by have h := made_sees w1 dXY #[.int .u8 120, .int .u8 121] (2, 3) rfl; simpa using h)
  replace HB := Lib.hid (HB.out.trans (hb.mono HB.out.size))
  replace HD := Lib.hid (HD.out.keep hb)
  clear hb
  go_wp2_with fail
  clear hcv
  generalize w1.alloc (.cells #[.int .u8 120, .int .u8 121] 5 (2, 3)) = w2 at *
  generalize w1.heap.size = GX at *
  refine (do_any g (g + 1) none (newS [] 99) 1 pA ⟨#[]⟩ dXY (some ⟨GX, 0, none⟩) 2 (by decide) (by decide) (by decide) (Nat.le_refl _) (fun h => by cases h) (new_sm _ _) (by decide) (by decide) w2 HD.out HX.out).mono ?_
  rintro e w3 ⟨rfl, ha⟩
  replace HB := Lib.hid (HB.out.trans (After.below HD.out ha HG.out))
  obtain ⟨_, hD2, _, _⟩ := ha
  replace HD := Lib.hid hD2
  clear hD2
  rw [aw_ok]
  have HA1 := Lib.hid aw_now
  have HA2 := Lib.hid aw_crash
  have HA3 := Lib.hid aw_off
  have HSM : Hid (Sm awS) := Lib.hid (do_sm (new_sm _ _) _ ⟨by decide, by decide, by decide⟩ (by decide))
  replace HD : Hid (DiskAt w3 g (g + 1) _ awS) := HD
  generalize awS = S1 at *
  go_wp2_with fail
  refine (now_any _ _ _ _ _ HD.out).mono ?_
  rintro e w4 ⟨⟨v, rfl, hR⟩, hb⟩
  replace HB := Lib.hid (HB.out.trans (hb.mono HB.out.size))
  replace HD := Lib.hid (HD.out.keep hb)
  obtain ⟨q4, c4, rfl⟩ := rdt_len hR
  rw [HA1.out]
  have hfl := field_L (.slice q4 1 c4) w4
  clear hR hb
  go_wp2_with fail
  refine (crash_any _ _ _ _ [] none 0 (-1) (by decide) HSM.out _ HD.out (Sees.nil _ _ _)).mono ?_
  rintro e w5 ⟨rfl, ha⟩
  replace HB := Lib.hid (HB.out.trans (After.below HD.out ha HG.out))
  obtain ⟨_, hD2, _, _⟩ := ha
  replace HD := Lib.hid hD2
  clear hD2
  generalize crashS S1 [] (-1) = S2 at *
  go_wp2_with fail
  refine (now_any _ _ _ _ _ HD.out).mono ?_
  rintro e w6 ⟨⟨v, rfl, hR⟩, hb⟩
  replace HB := Lib.hid (HB.out.trans (hb.mono HB.out.size))
  replace HD := Lib.hid (HD.out.keep hb)
  obtain ⟨q6, c6, rfl⟩ := rdt_len hR
  rw [HA2.out]
  have hfl := field_L (.slice q6 0 c6) w6
  clear hR hb
  go_wp2_with fail
  refine (off_any _ _ _ _ _ HD.out).mono ?_
  rintro e w7 ⟨rfl, hb⟩
  replace HB := Lib.hid (HB.out.trans (hb.mono HB.out.size))
  replace HD := Lib.hid (HD.out.keep hb)
  rw [HA3.out]
  clear hb
  go_wp2_with fail
  go_ret
  exact ⟨rfl, HB.out⟩
end Go.Proofs.YtefamkckoikeoaaDoor
/- A disk that has power and no fuse; a tree as it is seen. No condition. -/
namespace Go.Proofs.YtefamkckoikeoaaDoor
open Go.RowKit
/-- A disk that has power, and no fuse. -/
def Lit (S : DS) : Prop := S.off = false ∧ S.left = 0
theorem power_lit {S : DS} (h : Lit S) : powerS S = S := by unfold powerS; rw [if_neg (by rw [h.2]; decide)]
theorem do_lit {S : DS} (h : Lit S) (c : Chg) : ((doS S c).1 = S ∧ (doS S c).2 ≠ 0) ∨
    ((chE S.now c).2 = 0 ∧ ¬ (S.quota < (bytesT (chE S.now c).1 : Int) ∧ bytesT S.now < bytesT (chE S.now c).1) ∧ doS S c = ({ S with now := (chE S.now c).1, waits := S.waits ++ [c], count := S.count + 1 }, 0)) := by
  have hp := power_lit h
  unfold doS
  rw [hp, if_neg (by rw [h.1]; simp)]
  split
  · rename_i h1; exact .inl ⟨rfl, h1⟩
  · rename_i h1
    split
    · exact .inl ⟨rfl, by simp⟩
    · rename_i h2; exact .inr ⟨by simpa using h1, h2, rfl⟩
theorem do_lit2 {S : DS} (h : Lit S) (c : Chg) : Lit (doS S c).1 := by
  rcases do_lit h c with ⟨h1, _⟩ | ⟨_, _, h1⟩
  · rw [h1]; exact h
  · rw [h1]; exact h
def okC (e : ActE) : Prop := e.2.1.size < 2305843009213693952 ∧ e.2.2.1.size < 2305843009213693952 ∧ e.2.2.2.2.length ≤ 140737488355328
theorem rdt_parts {w : World} {v : Value} {X : List Ent} (h : RdT w v X) (hg : goodP X = true) : ∃ C q c, v = .slice q C.length c ∧ C.length = X.length ∧ C.length ≤ c ∧ (q = none → c = 0) ∧ Sees w w.heap.size q (rowC C) ∧ Ents w C ∧ goodP C = true ∧ era C = X ∧ bytesP C = bytesT X ∧ C.length ≤ 40 ∧ bytesT C ≤ 16384 ∧ ∀ e ∈ C, e.1.size ≤ 68 := by
  obtain ⟨C, e, ⟨q, c, h1, h2, h3, h4⟩, h5⟩ := h
  have hg' : goodP C = true := by rw [← era_good, e]; exact hg
  obtain ⟨a, b, d⟩ := good_small8 hg'
  exact ⟨C, q, c, h1, by rw [← e, era_len], h2, h3, h4, h5, hg', e, by unfold bytesP; rw [if_pos hg', ← e, era_bytes], a, b, d⟩
end Go.Proofs.YtefamkckoikeoaaDoor
/- What the rows give the walks of package path's laws: that a start meets the rows' condition; a slice of texts that came in. -/
namespace Go.Proofs.YtefamkckoikeoaaDoor
open Go.ChangeShapes Go.WideShapes Go.ChangeAt Go.RowKit Go.ChangeMaps
theorem own : ownKnob Tryd.prog.godebug = none := by kernel_rfl
theorem laidOut : laidOutB Tryd.prog = true := by kernel_rfl
def laidVars : List (String × DataW Unit) := [("unicode/utf8.acceptRanges", Rows.laid_unicode_utf8_acceptRanges), ("unicode/utf8.first", Rows.laid_unicode_utf8_first)]
theorem laid_met (os : Os) (args : Array Value) : laidMetH Tryd.prog laidVars ((World.laidAll Tryd.prog os laidVars).forCall (fun _ _ => 0) ⟨#[], args, []⟩).memory := by
  rw [MakeChecks.laidMetH_plain _ _ _ (by kernel_rfl)]
  exact laidMet_laidAll _ (by kernel_rfl) (by kernel_rfl)
theorem cell_lt {w : World} {a : Addr} {v : Value} (h : w.cell? a = some v) : a.block < w.heap.size := by
  rcases Nat.lt_or_ge a.block w.heap.size with hl | hl
  · exact hl
  · unfold World.cell? at h
    rw [Array.getElem?_eq_none hl] at h
    cases h
set_option maxRecDepth 100000 in
theorem open_texts {H : Type} {enc : TypeId × Value → H} {w : World} {base b0 : Nat} {held : Bool} {r : Reach} {v : Value} {d : DataW H} {ps : List MemPlace}
    (hval : Value.okWide Tryd.prog w r b0 39 v) (h : DataW.Trod enc Tryd.prog w base (fun _ => true) held 39 v d ps) :
    ∃ (l : List ByteArray) (q : Option Addr) (c : Nat), v = .slice q l.length c ∧ l.length ≤ c ∧ (q = none → c = 0) ∧ l.length ≤ maxLen ∧ (∀ s ∈ l, s.size ≤ maxLen) ∧ Sees w w.heap.size q (l.map Value.string) := by
  obtain ⟨a0, len0, cap0, rfl⟩ := okWide_slice Tryd.underlying39 hval
  obtain ⟨fuel, hf⟩ := h
  rcases open_strings Tryd.underlying39 Tryd.underlying9 (by kernel_rfl) hf with ⟨hcs, _⟩ | ⟨x, l, c, ss, hcs, _, hl, hm, hz, _, hcell, hwz⟩
  · simp [Value.cells] at hcs
    obtain ⟨rfl, rfl, rfl⟩ := hcs
    exact ⟨[], none, 0, rfl, Nat.le_refl _, fun _ => rfl, by simp, by simp, Sees.nil _ _ _⟩
  · simp [Value.cells] at hcs
    obtain ⟨rfl, rfl, rfl⟩ := hcs
    have hz' : ss.length = cap0 := by simpa using hz
    refine ⟨ss.take len0, some x, cap0, by simp; omega, by simp; omega, fun h => (by cases h), by simp; omega, fun s hs => hwz s (List.mem_of_mem_take hs), fun h0 => ?_⟩
    have hp : 0 < ss.length := by simp at h0; omega
    refine ⟨x, rfl, by have := cell_lt (hcell 0 hp); rwa [add_block] at this, fun j u hu => ?_⟩
    have hj : j < len0 := by have := (List.getElem?_eq_some_iff.1 hu).1; simp at this; omega
    rw [hcell j (by omega), ← hu, List.getElem?_map, List.getElem?_take, if_pos hj, List.getElem?_eq_getElem (show j < ss.length by omega)]
    simp [List.getD_eq_getElem?_getD, List.getElem?_eq_getElem (show j < ss.length by omega)]
end Go.Proofs.YtefamkckoikeoaaDoor
/- What the rows give the walks of package tree's laws: a slice of entries that came in. -/
namespace Go.Proofs.YtefamkckoikeoaaDoor
open Go.ChangeShapes Go.WideShapes Go.ChangeAt Go.RowKit Go.ChangeMaps Go.Deep Go.Joins 
theorem weightsAll_mem {H : Type} {P : Program} {e : TypeId} : ∀ {l : List (DataW H)} {d : DataW H}, d ∈ l → ∀ n ∈ d.weights P e, n ∈ DataW.weightsAll P e l
  | d' :: r, d, hd, n, hn => by
    simp only [DataW.weightsAll, List.mem_append]
    rcases List.mem_cons.1 hd with rfl | h
    · exact .inl hn
    · exact .inr (weightsAll_mem h n hn)
def byteOf : Value → BitVec 8
  | .int _ n => BitVec.ofInt 8 n
  | _ => 0
theorem u8v_byteOf (n : Int) (h : (Lit.int .u8 n).wf = true) : u8v (byteOf (.int .u8 n)) = .int .u8 n := by
  have hb : 0 ≤ n ∧ n ≤ 255 := bounds_u8 h
  obtain ⟨m, rfl⟩ := Int.eq_ofNat_of_zero_le hb.1
  show Value.int .u8 (B (BitVec.ofInt 8 (m : Int))) = _
  rw [BitVec.ofInt_natCast, ← B_ofNat m (by omega)]
set_option maxRecDepth 100000 in
theorem open_bytesF {H : Type} {enc : TypeId × Value → H} {w : World} {base fuel : Nat} {held : Bool} {v : Value} {y : DataW H × List MemPlace}
    (hf : DataW.trod enc Tryd.prog w base (fun _ => true) held fuel 30 [v] = some y) :
    ∃ b : List (BitVec 8), Bs w v b ∧ b.length ≤ maxLen ∧ (b.length = 0 ∨ ∃ n ∈ y.1.weights Tryd.prog 30, b.length ≤ n) := by
  obtain ⟨a0, len0, cap0, hv⟩ := slice_form Tryd.underlying30 hf
  obtain rfl : v = .slice a0 len0 cap0 := by simpa using hv
  obtain ⟨d, ps⟩ := y
  have hsl := sliceLen_trod Tryd.underlying30 hf
  have hw : len0 = 0 ∨ ∃ n ∈ d.weights Tryd.prog 30, len0 ≤ n := by
    cases d <;> first | (exact .inl (by simpa [sliceLen] using hsl.symm)) | skip
    rename_i el sp
    refine .inr ⟨(el.length + sp.length) * Tryd.prog.bytesOf 5, by simp [DataW.weights, Tryd.underlying30], ?_⟩
    have hb1 : Tryd.prog.bytesOf 5 = 1 := by kernel_rfl
    have : el.length = len0 := by simpa [sliceLen] using hsl
    rw [hb1]; omega
  rcases open_ints Tryd.underlying30 Tryd.underlying5 (by kernel_rfl) hf with ⟨hcs, _⟩ | ⟨x, l, c, zs, hcs, _, hl, hm, hz, _, hcell, hwz⟩
  · simp at hcs
    obtain ⟨rfl, rfl, rfl⟩ := hcs
    exact ⟨[], ⟨none, 0, rfl, Nat.le_refl _, fun _ => rfl, Sees.nil _ _ _⟩, by simp, .inl rfl⟩
  · simp at hcs
    obtain ⟨rfl, rfl, rfl⟩ := hcs
    have hz' : zs.length = cap0 := by simpa using hz
    have hbl : ((zs.take len0).map fun n => byteOf (.int .u8 n)).length = len0 := by simp; omega
    refine ⟨(zs.take len0).map fun n => byteOf (.int .u8 n), ⟨some x, cap0, by rw [hbl], by rw [hbl]; omega, fun h => (by cases h), fun h0 => ?_⟩, by rw [hbl]; omega, by rw [hbl]; exact hw⟩
    have hp : 0 < zs.length := by simp at h0; omega
    refine ⟨x, rfl, by have := cell_lt (hcell 0 hp); rwa [add_block] at this, fun j u hu => ?_⟩
    have hj : j < len0 := by have := (List.getElem?_eq_some_iff.1 hu).1; simp at this; omega
    rw [hcell j (by omega), ← hu, List.getElem?_map, List.getElem?_map, List.getElem?_take, if_pos hj, List.getElem?_eq_getElem (show j < zs.length by omega)]
    simp [List.getD_eq_getElem?_getD, List.getElem?_eq_getElem (show j < zs.length by omega), u8v_byteOf _ (hwz _ (List.getElem_mem _))]
set_option maxRecDepth 100000 in
theorem open_entF {H : Type} {enc : TypeId × Value → H} {w : World} {base fuel : Nat} {held : Bool} {cs : List Value} {y : DataW H × List MemPlace}
    (hf : DataW.trod enc Tryd.prog w base (fun _ => true) held fuel 32 cs = some y) :
    ∃ e : Ent, cs = entC e ∧ e.1.size ≤ maxLen ∧ Bs w e.val e.by ∧ (e.by.length = 0 ∨ ∃ n ∈ y.1.weights Tryd.prog 32, e.by.length ≤ n) := by
  obtain ⟨y0, y1, y2, n, hy, hl, h0, h1, h2⟩ := trod_struct3 Tryd.underlying32 hf
  have hc3 : Tryd.prog.cellsOf 32 = 3 := by kernel_rfl
  have hcs : Tryd.prog.cellsOf 9 = 1 := by kernel_rfl
  have hcb : Tryd.prog.cellsOf 4 = 1 := by kernel_rfl
  have hcu : Tryd.prog.cellsOf 30 = 1 := by kernel_rfl
  match cs, hl.trans hc3 with
  | [c0, c1, c2], _ =>
    have g0 : DataW.trod enc Tryd.prog w base (fun _ => true) held n 9 [c0] = some y0 := by simpa [hcs] using h0
    have g1 : DataW.trod enc Tryd.prog w base (fun _ => true) held n 4 [c1] = some y1 := by simpa [hcb] using h1
    have g2 : DataW.trod enc Tryd.prog w base (fun _ => true) held n 30 [c2] = some y2 := by simpa [hcu] using h2
    obtain ⟨s, e0, _, hs⟩ := DataW.trod_string Tryd.underlying9 g0
    obtain ⟨d, e1, _⟩ := DataW.trod_bool Tryd.underlying4 g1
    obtain ⟨b, hb, hbl, hbw⟩ := open_bytesF g2
    obtain rfl : c0 = .string s := by simpa using e0
    obtain rfl : c1 = .bool d := by simpa using e1
    refine ⟨(s, d, c2, b), rfl, hs, hb, ?_⟩
    rcases hbw with h | ⟨m, hm, hle⟩
    · exact .inl h
    · refine .inr ⟨m, ?_, hle⟩
      rw [hy]
      simp only [DataW.weights, Tryd.underlying32]
      exact DataW.weights_mem_each (j := 2) rfl rfl _ hm
set_option maxRecDepth 100000 in
theorem open_ents {H : Type} {enc : TypeId × Value → H} {w : World} {base b0 : Nat} {held : Bool} {r : Reach} {v : Value} {d : DataW H} {ps : List MemPlace}
    (hval : Value.okWide Tryd.prog w r b0 23 v) (h : DataW.Trod enc Tryd.prog w base (fun _ => true) held 23 v d ps) :
    ∃ (C : List Ent) (q : Option Addr) (c : Nat), v = .slice q C.length c ∧ C.length ≤ c ∧ (q = none → c = 0) ∧ (∀ e ∈ C, e.1.size ≤ maxLen) ∧ Sees w w.heap.size q (rowC C) ∧ Ents w C ∧ ∀ e ∈ C, e.by.length = 0 ∨ ∃ n ∈ d.weights Tryd.prog 23, e.by.length ≤ n := by
  obtain ⟨a0, len0, cap0, rfl⟩ := okWide_slice Tryd.underlying23 hval
  obtain ⟨fuel, hf⟩ := h
  have hc3 : Tryd.prog.cellsOf 32 = 3 := by kernel_rfl
  rcases open_slice Tryd.underlying23 hf with ⟨hcs, _⟩ | ⟨a, len, cap, m, n, D, Pl, hcs, hbk, hl, hm, hmm, hx, hel⟩
  · simp [Value.cells] at hcs
    obtain ⟨rfl, rfl, rfl⟩ := hcs
    exact ⟨[], none, 0, rfl, Nat.le_refl _, fun _ => rfl, by simp, Sees.nil _ _ _, (fun _ hx => nomatch hx), (fun _ hx => nomatch hx)⟩
  · simp [Value.cells] at hcs
    obtain ⟨rfl, rfl, rfl⟩ := hcs
    have hmc : m = cap0 := by rw [hmm]; rfl
    have key : ∀ i, i < len0 → ∃ e : Ent, (∀ j, j < 3 → w.cell? (a.add (i * 3 + j)) = (entC e)[j]?) ∧ e.1.size ≤ maxLen ∧ Bs w e.val e.by ∧ (e.by.length = 0 ∨ ∃ n ∈ (D i).weights Tryd.prog 32, e.by.length ≤ n) := fun i hi => by
      obtain ⟨cs', h1, h2⟩ := hel i (by omega)
      obtain ⟨e, rfl, hs, hb, hw⟩ := open_entF h2
      rw [hc3] at h1
      obtain ⟨_, _, h5⟩ := World.cells?_some h1
      exact ⟨e, fun j hj => by rw [← add_add]; exact h5 j hj, hs, hb, hw⟩
    have ⟨f, hfk⟩ : ∃ f : Nat → Ent, ∀ i, i < len0 → (∀ j, j < 3 → w.cell? (a.add (i * 3 + j)) = (entC (f i))[j]?) ∧ (f i).1.size ≤ maxLen ∧ Bs w (f i).val (f i).by ∧ ((f i).by.length = 0 ∨ ∃ n ∈ (D i).weights Tryd.prog 32, (f i).by.length ≤ n) := by
      refine ⟨fun i => if h : i < len0 then Classical.choose (key i h) else (⟨#[]⟩, false, .slice none 0 0, []), fun i hi => ?_⟩
      simp only [dif_pos hi]
      exact Classical.choose_spec (key i hi)
    have hlen : ((List.range len0).map f).length = len0 := by simp
    have hmem : ∀ e ∈ (List.range len0).map f, ∃ i, i < len0 ∧ e = f i := fun e he => by
      obtain ⟨i, hi, rfl⟩ := List.mem_map.1 he
      exact ⟨i, List.mem_range.1 hi, rfl⟩
    refine ⟨(List.range len0).map f, some a, cap0, by rw [hlen], by rw [hlen]; omega, fun h => (by cases h), fun e he => ?_, fun h0 => ?_, fun e he => ?_, fun e he => ?_⟩
    · obtain ⟨i, hi, rfl⟩ := hmem e he
      exact (hfk i hi).2.1
    · rw [rowC_len, hlen] at h0
      have hp : 0 < len0 := by omega
      have hc0 : w.cell? (a.add 0) = some (.string (f 0).1) := by have := (hfk 0 hp).1 0 (by omega); simpa [entC] using this
      refine ⟨a, rfl, by have := cell_lt hc0; rwa [add_block] at this, fun j u hu => ?_⟩
      have hj := (List.getElem?_eq_some_iff.1 hu).1
      rw [rowC_len, hlen] at hj
      have hi : j / 3 < len0 := by omega
      have hcc := (hfk (j / 3) hi).1 (j % 3) (by omega)
      rw [show j / 3 * 3 + j % 3 = j by omega] at hcc
      rw [hcc, ← hu]
      obtain ⟨r1, r2, r3⟩ := rowC_get ((List.range len0).map f) (j / 3) (by rw [hlen]; exact hi)
      have hg : ((List.range len0).map f)[j / 3]'(by rw [hlen]; exact hi) = f (j / 3) := by simp
      rw [hg] at r1 r2 r3
      have h3 : j % 3 = 0 ∨ j % 3 = 1 ∨ j % 3 = 2 := by omega
      rcases h3 with h | h | h
      · rw [show j / 3 * 3 = j by omega] at r1; rw [h, r1]; rfl
      · rw [show j / 3 * 3 + 1 = j by omega] at r2; rw [h, r2]; rfl
      · rw [show j / 3 * 3 + 2 = j by omega] at r3; rw [h, r3]; rfl
    · obtain ⟨i, hi, rfl⟩ := hmem e he
      exact (hfk i hi).2.2.1
    · obtain ⟨i, hi, rfl⟩ := hmem e he
      rcases (hfk i hi).2.2.2 with h | ⟨n, hn, hle⟩
      · exact .inl h
      · refine .inr ⟨n, ?_, hle⟩
        have hd : d = .slice ((List.range len0).map D) ((List.range (m - len0)).map fun j => D (len0 + j)) := (congrArg Prod.fst hx)
        rw [hd]
        simp only [DataW.weights, Tryd.underlying23, List.mem_cons, List.mem_append]
        exact .inr (.inl (weightsAll_mem (List.mem_map.2 ⟨i, List.mem_range.2 hi, rfl⟩) n hn))
theorem bytes_bound {C : List Ent} (h : ∀ e ∈ C, e.by.length ≤ reachBytes) : C.length ≤ 40 → bytesT C ≤ 2305843009213693952 := by
  have key : ∀ D : List Ent, (∀ e ∈ D, e.by.length ≤ reachBytes) → bytesT D ≤ D.length * reachBytes := by
    intro D
    induction D with
    | nil => intro _; simp [bytesT]
    | cons x D ih =>
      intro hD
      have h1 := ih fun e he => hD e (List.mem_cons_of_mem _ he)
      have h2 := hD x (List.mem_cons_self ..)
      have h3 : bytesT (x :: D) = x.by.length + bytesT D := by unfold bytesT; rw [List.map_cons, List.sum_cons]
      rw [h3, List.length_cons, Nat.add_mul, Nat.one_mul]; omega
  intro hl
  have h1 := key C h
  have h2 : C.length * reachBytes ≤ 40 * reachBytes := Nat.mul_le_mul_right _ hl
  have h3 : 40 * reachBytes ≤ 2305843009213693952 := by decide
  omega
theorem paths_bound {C : List Ent} (h : ∀ e ∈ C, e.1.size ≤ maxLen) : ∀ e ∈ C, e.1.size < 9223372036854775808 := fun e he => by
  have := h e he
  unfold maxLen at this
  omega
end Go.Proofs.YtefamkckoikeoaaDoor
/- A slice of bytes that came in. No condition. -/
namespace Go.Proofs.YtefamkckoikeoaaDoor
open Go.ChangeShapes Go.WideShapes Go.ChangeAt Go.RowKit Go.ChangeMaps Go.Deep Go.Joins
set_option maxRecDepth 100000 in
theorem open_bytes8 {H : Type} {enc : TypeId × Value → H} {w : World} {base b0 : Nat} {held : Bool} {r : Reach} {v : Value} {d : DataW H} {ps : List MemPlace}
    (hval : Value.okWide Tryd.prog w r b0 30 v) (h : DataW.Trod enc Tryd.prog w base (fun _ => true) held 30 v d ps) : ∃ b : List (BitVec 8), Bs w v b ∧ b.length ≤ maxLen ∧ (b.length = 0 ∨ ∃ n ∈ d.weights Tryd.prog 30, b.length ≤ n) := by
  obtain ⟨a0, len0, cap0, rfl⟩ := okWide_slice Tryd.underlying30 hval
  obtain ⟨fuel, hf⟩ := h
  exact open_bytesF (by simpa [Value.cells] using hf)
end Go.Proofs.YtefamkckoikeoaaDoor
/- Slices of changes and of numbers that came in. No condition. -/
namespace Go.Proofs.YtefamkckoikeoaaDoor
open Go.ChangeShapes Go.WideShapes Go.ChangeAt Go.RowKit Go.ChangeMaps Go.Deep Go.Joins
/-- Its weights are told. -/
def WtC (e : ActE) (W : List Nat) : Prop := (∃ n ∈ W, e.2.1.size ≤ n) ∧ (∃ n ∈ W, e.2.2.1.size ≤ n) ∧ (e.2.2.2.2.length = 0 ∨ ∃ n ∈ W, e.2.2.2.2.length ≤ n)
set_option maxRecDepth 100000 in
theorem open_chgF {H : Type} {enc : TypeId × Value → H} {w : World} {base fuel : Nat} {held : Bool} {cs : List Value} {y : DataW H × List MemPlace}
    (hf : DataW.trod enc Tryd.prog w base (fun _ => true) held fuel 47 cs = some y) :
    ∃ e : ActE, cs = actC e ∧ Bs w e.2.2.2.1 e.2.2.2.2 ∧ WtC e (y.1.weights Tryd.prog 47) := by
  obtain ⟨y0, y1, y2, y3, n, hy, hl, h0, h1, h2, h3⟩ := trod_struct4 Tryd.underlying47 hf
  have hc4 : Tryd.prog.cellsOf 47 = 4 := by kernel_rfl
  have hcs : Tryd.prog.cellsOf 9 = 1 := by kernel_rfl
  have hci : Tryd.prog.cellsOf 3 = 1 := by kernel_rfl
  have hcu : Tryd.prog.cellsOf 30 = 1 := by kernel_rfl
  match cs, hl.trans hc4 with
  | [c0, c1, c2, c3], _ =>
    have g0 : DataW.trod enc Tryd.prog w base (fun _ => true) held n 3 [c0] = some y0 := by simpa [hci] using h0
    have g1 : DataW.trod enc Tryd.prog w base (fun _ => true) held n 9 [c1] = some y1 := by simpa [hci, hcs] using h1
    have g2 : DataW.trod enc Tryd.prog w base (fun _ => true) held n 9 [c2] = some y2 := by simpa [hci, hcs] using h2
    have g3 : DataW.trod enc Tryd.prog w base (fun _ => true) held n 30 [c3] = some y3 := by simpa [hci, hcs, hcu] using h3
    obtain ⟨k, e0, _, _⟩ := DataW.trod_int Tryd.underlying3 g0
    obtain ⟨s, e1, d1, _⟩ := DataW.trod_string Tryd.underlying9 g1
    obtain ⟨t, e2, d2, _⟩ := DataW.trod_string Tryd.underlying9 g2
    obtain ⟨b, hb, _, hw⟩ := open_bytesF g3
    obtain rfl : c0 = .int .i64 k := by simpa using e0
    obtain rfl : c1 = .string s := by simpa using e1
    obtain rfl : c2 = .string t := by simpa using e2
    have hwd : y.1.weights Tryd.prog 47 = DataW.weightsEach Tryd.prog [3, 9, 9, 30] [y0.1, y1.1, y2.1, y3.1] := by
      rw [hy]
      simp only [DataW.weights, Tryd.underlying47]
      rfl
    refine ⟨(k, s, t, c3, b), rfl, hb, ?_, ?_, ?_⟩
    · refine ⟨s.size, ?_, Nat.le_refl _⟩
      rw [hwd]
      exact DataW.weights_mem_each (j := 1) (t := 9) (d := y1.1) rfl rfl _ (by rw [d1]; simp only [DataW.weights]; exact List.mem_singleton.2 rfl)
    · refine ⟨t.size, ?_, Nat.le_refl _⟩
      rw [hwd]
      exact DataW.weights_mem_each (j := 2) (t := 9) (d := y2.1) rfl rfl _ (by rw [d2]; simp only [DataW.weights]; exact List.mem_singleton.2 rfl)
    · rcases hw with h | ⟨m, hm, hle⟩
      · exact .inl h
      · refine .inr ⟨m, ?_, hle⟩
        rw [hwd]
        exact DataW.weights_mem_each (j := 3) (t := 30) (d := y3.1) rfl rfl _ hm
theorem wt_mono {e : ActE} {W W' : List Nat} (h : WtC e W) (hw : ∀ n ∈ W, n ∈ W') : WtC e W' := by
  obtain ⟨⟨a, ha, la⟩, ⟨b, hb, lb⟩, hc⟩ := h
  exact ⟨⟨a, hw a ha, la⟩, ⟨b, hw b hb, lb⟩, hc.imp id fun ⟨c, hc, lc⟩ => ⟨c, hw c hc, lc⟩⟩
theorem wt_ok {e : ActE} {W : List Nat} (h : WtC e W) (hw : ∀ n ∈ W, n ≤ reachBytes) : okC e := by
  obtain ⟨⟨a, ha, la⟩, ⟨b, hb, lb⟩, hc⟩ := h
  have h1 := hw a ha
  have h2 := hw b hb
  have hr : reachBytes = 140737488351232 := rfl
  refine ⟨by omega, by omega, ?_⟩
  rcases hc with h | ⟨c, hc, lc⟩
  · omega
  · have := hw c hc; omega
set_option maxRecDepth 100000 in
theorem open_chgs {H : Type} {enc : TypeId × Value → H} {w : World} {base b0 : Nat} {held : Bool} {r : Reach} {v : Value} {d : DataW H} {ps : List MemPlace}
    (hval : Value.okWide Tryd.prog w r b0 48 v) (h : DataW.Trod enc Tryd.prog w base (fun _ => true) held 48 v d ps) :
    ∃ (C : List ActE) (q : Option Addr) (c : Nat), v = .slice q C.length c ∧ Sees w w.heap.size q (rowA C) ∧ (∀ a ∈ C, Bs w a.2.2.2.1 a.2.2.2.2) ∧ ∀ a ∈ C, WtC a (d.weights Tryd.prog 48) := by
  obtain ⟨a0, len0, cap0, rfl⟩ := okWide_slice Tryd.underlying48 hval
  obtain ⟨fuel, hf⟩ := h
  have hc4 : Tryd.prog.cellsOf 47 = 4 := by kernel_rfl
  rcases open_slice Tryd.underlying48 hf with ⟨hcs, _⟩ | ⟨a, len, cap, m, n, D, Pl, hcs, hbk, hl, hm, hmm, hx, hel⟩
  · simp [Value.cells] at hcs
    obtain ⟨rfl, rfl, rfl⟩ := hcs
    exact ⟨[], none, 0, rfl, Sees.nil _ _ _, (fun _ hx => nomatch hx), (fun _ hx => nomatch hx)⟩
  · simp [Value.cells] at hcs
    obtain ⟨rfl, rfl, rfl⟩ := hcs
    have hmc : m = cap0 := by rw [hmm]; rfl
    have key : ∀ i, i < len0 → ∃ e : ActE, (∀ j, j < 4 → w.cell? (a.add (i * 4 + j)) = (actC e)[j]?) ∧ Bs w e.2.2.2.1 e.2.2.2.2 ∧ WtC e ((D i).weights Tryd.prog 47) := fun i hi => by
      obtain ⟨cs', h1, h2⟩ := hel i (by omega)
      obtain ⟨e, rfl, hb, hw⟩ := open_chgF h2
      rw [hc4] at h1
      obtain ⟨_, _, h5⟩ := World.cells?_some h1
      exact ⟨e, fun j hj => by rw [← add_add]; exact h5 j hj, hb, hw⟩
    have ⟨f, hfk⟩ : ∃ f : Nat → ActE, ∀ i, i < len0 → (∀ j, j < 4 → w.cell? (a.add (i * 4 + j)) = (actC (f i))[j]?) ∧ Bs w (f i).2.2.2.1 (f i).2.2.2.2 ∧ WtC (f i) ((D i).weights Tryd.prog 47) := by
      refine ⟨fun i => if h : i < len0 then Classical.choose (key i h) else (0, ⟨#[]⟩, ⟨#[]⟩, .slice none 0 0, []), fun i hi => ?_⟩
      simp only [dif_pos hi]
      exact Classical.choose_spec (key i hi)
    have hlen : ((List.range len0).map f).length = len0 := by simp
    have hmem : ∀ e ∈ (List.range len0).map f, ∃ i, i < len0 ∧ e = f i := fun e he => by
      obtain ⟨i, hi, rfl⟩ := List.mem_map.1 he
      exact ⟨i, List.mem_range.1 hi, rfl⟩
    refine ⟨(List.range len0).map f, some a, cap0, by rw [hlen], fun h0 => ?_, fun e he => ?_, fun e he => ?_⟩
    · rw [rowA_len, hlen] at h0
      have hp : 0 < len0 := by omega
      have hc0 : w.cell? (a.add 0) = some (.int .i64 (f 0).1) := by have := (hfk 0 hp).1 0 (by omega); simpa [actC] using this
      refine ⟨a, rfl, by have := cell_lt hc0; rwa [add_block] at this, fun j u hu => ?_⟩
      have hj := (List.getElem?_eq_some_iff.1 hu).1
      rw [rowA_len, hlen] at hj
      have hi : j / 4 < len0 := by omega
      have hcc := (hfk (j / 4) hi).1 (j % 4) (by omega)
      rw [show j / 4 * 4 + j % 4 = j by omega] at hcc
      rw [hcc, ← hu]
      obtain ⟨r1, r2, r3, r4⟩ := rowA_get ((List.range len0).map f) (j / 4) (by rw [hlen]; exact hi)
      have hg : ((List.range len0).map f)[j / 4]'(by rw [hlen]; exact hi) = f (j / 4) := by simp
      rw [hg] at r1 r2 r3 r4
      have h4 : j % 4 = 0 ∨ j % 4 = 1 ∨ j % 4 = 2 ∨ j % 4 = 3 := by omega
      rcases h4 with h | h | h | h
      · rw [show j / 4 * 4 = j by omega] at r1; rw [h, r1]; rfl
      · rw [show j / 4 * 4 + 1 = j by omega] at r2; rw [h, r2]; rfl
      · rw [show j / 4 * 4 + 2 = j by omega] at r3; rw [h, r3]; rfl
      · rw [show j / 4 * 4 + 3 = j by omega] at r4; rw [h, r4]; rfl
    · obtain ⟨i, hi, rfl⟩ := hmem e he
      exact (hfk i hi).2.1
    · obtain ⟨i, hi, rfl⟩ := hmem e he
      refine wt_mono (hfk i hi).2.2 fun n hn => ?_
      have hd : d = .slice ((List.range len0).map D) ((List.range (m - len0)).map fun j => D (len0 + j)) := (congrArg Prod.fst hx)
      rw [hd]
      simp only [DataW.weights, Tryd.underlying48, List.mem_cons, List.mem_append]
      exact .inr (.inl (weightsAll_mem (List.mem_map.2 ⟨i, List.mem_range.2 hi, rfl⟩) n hn))
end Go.Proofs.YtefamkckoikeoaaDoor
