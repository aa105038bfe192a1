/- The calls and answers that the document names for package chunk (ChunkKnown): the law returns true. No condition. -/
import Derived.Test.YthpledfjopbchaaDoorBe1
import Derived.MapKept
import Derived.WideMake
import Derived.WideKeyArr
import Derived.WideKeyArr2
import Derived.Test.YthpledfjopbchaaDoorBb1
import Derived.Test.YthpledfjopbchaaDoorBa1
import Derived.WalkKit
import Derived.Test.YthpledfjopbchaaDoorCards
import Derived.Test.YthpledfjopbchaaDoorTie
import Derived.ShutString
import Derived.ChangeOld
import Derived.SevenTiedAt
/- A map from sums to whole numbers in memory: looked up, one put in. No condition. -/
namespace Go.Proofs.YthpledfjopbchaaDoor
open Go.RowKit Go.WideMaps
theorem arrSum : ArrKey Tryd.prog 24 5 32 := ⟨Tryd.underlying24, by kernel_rfl, by kernel_rfl, by kernel_rfl⟩
theorem lawSum : KeyLaw Tryd.prog 24 := arrSum.law
theorem typesSz : ∃ m, Tryd.prog.types.size = m + 1 := ⟨Tryd.prog.types.size - 1, by kernel_rfl⟩
theorem mapM_some {α β : Type} {f : α → Option β} : ∀ (l : List α), (∀ x ∈ l, ∃ y, f x = some y) → ∃ ys, l.mapM f = some ys
  | [], _ => ⟨[], rfl⟩
  | x :: l, h => by
    obtain ⟨y, hy⟩ := h x (List.mem_cons_self ..)
    obtain ⟨ys, hys⟩ := mapM_some l fun z hz => h z (List.mem_cons_of_mem _ hz)
    exact ⟨y :: ys, by simp [List.mapM_cons, hy, hys]⟩
theorem u8_wf (x : BitVec 8) : (Lit.int .u8 (B x)).wf = true := by
  have h : 0 ≤ B x ∧ B x < 256 := by
    unfold B
    have := x.isLt
    omega
  have h1 : IntKind.u8.min = 0 := rfl
  have h2 : IntKind.u8.max = 255 := rfl
  simp [Lit.wf, h1, h2]
  omega
theorem keyOf_su (s : Su) : ∃ l, keyOf Tryd.prog 24 (aggU s) = some l := by
  have hkt := arrSum.keyType typesSz
  obtain ⟨m, hm⟩ := typesSz
  unfold keyOf aggU
  simp only [arrSum.hu]
  have hl : (encU s).toArray.size = 32 := encU_size s
  rw [if_pos (by simp [hkt, Value.formed, arrSum.hu, arrSum.size, encU_len]), hm]
  unfold Program.keyLits
  simp only [arrSum.hu, Value.cells]
  rw [if_pos (by rw [arrSum.size]; simpa using encU_len s)]
  obtain ⟨ys, hys⟩ := mapM_some (f := fun i => Tryd.prog.keyLits (m + 1) 5 (((encU s).toArray.toList.drop (i * Tryd.prog.cellsOf 5)).take (Tryd.prog.cellsOf 5))) (List.range 32) (fun i hi => by
    have hi' : i < s.1.length := by rw [s.2]; simpa using hi
    have e : ((encU s).toArray.toList.drop (i * Tryd.prog.cellsOf 5)).take (Tryd.prog.cellsOf 5) = [u8v s.1[i]] := by
      rw [arrSum.one, Nat.mul_one]
      unfold encU
      rw [List.toList_toArray, ← List.map_drop, ← List.map_take, List.drop_eq_getElem_cons hi', List.take_succ_cons, List.take_zero]
      rfl
    refine ⟨[.int .u8 (B s.1[i])], ?_⟩
    rw [e]
    unfold Program.keyLits u8v
    simp [Tryd.underlying5, u8_wf])
  rw [hys]
  exact ⟨_, rfl⟩
/-- A map from sums to whole numbers. -/
def MapU (w : World) (r : Nat) (f : Su → Option Nat) : Prop := ∃ es clock, w.heap[r]? = some (.map es clock) ∧ (∀ e ∈ es.toList, ∃ s i, e.key = aggU s ∧ e.val = .int .i64 (i : Nat) ∧ f s = some i) ∧ ∀ s i, f s = some i → ∃ e ∈ es.toList, e.key = aggU s
theorem aggU_inj {s t : Su} (h : aggU s = aggU t) : s = t := by
  unfold aggU at h
  injection h with h
  have h1 : encU s = encU t := by simpa using h
  have h2 : ∀ (a b : List (BitVec 8)), a.map u8v = b.map u8v → a = b := by
    intro a
    induction a with
    | nil => intro b hb; cases b with
      | nil => rfl
      | cons y b => simp at hb
    | cons x a ih => intro b hb; cases b with
      | nil => simp at hb
      | cons y b =>
        simp only [List.map_cons, List.cons.injEq] at hb
        obtain ⟨h1, h2⟩ := hb
        have hx : B x = B y := by unfold u8v at h1; injection h1
        have hxy : x = y := by
          unfold B at hx
          exact BitVec.eq_of_toNat_eq (by omega)
        rw [hxy, ih b h2]
  exact Subtype.ext (h2 _ _ h1)
theorem MapU.keys {es : Array MapEntry} {f : Su → Option Nat} (h : ∀ e ∈ es.toList, ∃ s i, e.key = aggU s ∧ e.val = .int .i64 (i : Nat) ∧ f s = some i) : ∀ e ∈ es.toList, ∃ l, keyOf Tryd.prog 24 e.key = some l := fun e he => by
  obtain ⟨s, i, hk, _⟩ := h e he
  rw [hk]; exact keyOf_su s
theorem lookup_u {w : World} {r : Nat} {f : Su → Option Nat} (h : MapU w r f) (s : Su) :
    (Instr.lookup 72 (.map (some r)) (aggU s) true).run Tryd.prog w = .ok (.tuple #[.int .i64 (((f s).getD 0 : Nat) : Int), .bool (f s).isSome]) w := by
  obtain ⟨es, clock, hb, h1, h2⟩ := h
  obtain ⟨l, hl⟩ := keyOf_su s
  have hc := lawSum.check w es.isEmpty hl
  rcases lawSum.find w hl es.toList (MapU.keys h1) with ⟨hf, hno⟩ | ⟨j, e, hf, hj, hk⟩
  · have hn : f s = none := by
      cases hfs : f s with
      | none => rfl
      | some i => obtain ⟨e, he, hk⟩ := h2 s i hfs; exact absurd hk (hno e he)
    rw [hn]
    simp [Instr.lookup, run_underlying Tryd.underlying72, MapKept.run_getObj_map hb, hc, hf, Result.andThen]
  · have he : e ∈ es.toList := List.mem_of_getElem? hj
    obtain ⟨t, i, hk', hv, hft⟩ := h1 e he
    have : s = t := aggU_inj (hk.symm.trans hk')
    subst this
    rw [hft]
    simp [Instr.lookup, run_underlying Tryd.underlying72, MapKept.run_getObj_map hb, hc, hf, hv, Result.andThen]
theorem below_map {b r : Nat} {a w : World} (h : Below b a w) (hr : b ≤ r) (o : Obj) : Below b a { w with heap := w.heap.setIfInBounds r o } :=
  ⟨h.os, h.tape, h.output, by simpa using h.size, fun k hk => by
    show (w.heap.setIfInBounds r o)[k]? = _
    rw [Array.getElem?_setIfInBounds_ne (by omega)]
    exact h.block k hk⟩
theorem update_u {w : World} {r : Nat} {f : Su → Option Nat} (h : MapU w r f) (s : Su) (hs : f s = none) (i : Nat) :
    ∃ o, (Instr.mapUpdate 72 (.map (some r)) (aggU s) (.int .i64 (i : Int))).run Tryd.prog w = .ok () { w with heap := w.heap.setIfInBounds r o } ∧ MapU { w with heap := w.heap.setIfInBounds r o } r (fun t => if t = s then some i else f t) := by
  obtain ⟨es, clock, hb, h1, h2⟩ := h
  obtain ⟨l, hl⟩ := keyOf_su s
  have hc := lawSum.check w false hl
  rcases lawSum.find w hl es.toList (MapU.keys h1) with ⟨hf, hno⟩ | ⟨j, e, hf, hj, hk⟩
  · refine ⟨.map (es.push { key := aggU s, val := .int .i64 (i : Int), born := clock }) (clock + 1), ?_, _, _, (MapKept.heap_set hb).1, fun e he => ?_, fun t k ht => ?_⟩
    · simp [Instr.mapUpdate, run_underlying Tryd.underlying72, MapKept.run_getObj_map hb, hc, hf, MapKept.run_setObj_map _ hb, Result.andThen]
    · rw [Array.toList_push] at he
      rcases List.mem_append.1 he with he | he
      · obtain ⟨t, k, e1, e2, e3⟩ := h1 e he
        refine ⟨t, k, e1, e2, ?_⟩
        have : t ≠ s := fun hts => by rw [hts, hs] at e3; cases e3
        show (if t = s then some i else f t) = some k
        rw [if_neg this]; exact e3
      · rw [List.mem_singleton.1 he]
        exact ⟨s, i, rfl, rfl, if_pos rfl⟩
    · rw [Array.toList_push]
      by_cases hts : t = s
      · subst hts
        exact ⟨_, List.mem_append_right _ (List.mem_singleton.2 rfl), rfl⟩
      · have ht : (if t = s then some i else f t) = some k := ht
        rw [if_neg hts] at ht
        obtain ⟨e, he, hk⟩ := h2 t k ht
        exact ⟨e, List.mem_append_left _ he, hk⟩
  · have he : e ∈ es.toList := List.mem_of_getElem? hj
    obtain ⟨t, k, hk', hv, hft⟩ := h1 e he
    have : s = t := aggU_inj (hk.symm.trans hk')
    subst this
    rw [hs] at hft; cases hft
theorem MapU.keep {w w' : World} {r b : Nat} {f : Su → Option Nat} (h : MapU w r f) (hb : Below b w w') (hr : r < b) : MapU w' r f := by
  obtain ⟨es, clock, h0, h1⟩ := h
  exact ⟨es, clock, (hb.block r hr).trans h0, h1⟩
theorem MapU.lt {w : World} {r : Nat} {f : Su → Option Nat} (h : MapU w r f) : r < w.heap.size := by
  obtain ⟨es, clock, h0, _⟩ := h
  exact (Array.getElem?_eq_some_iff.1 h0).1
theorem mapU_new (w : World) : MapU (w.alloc (.map #[] 0)) w.heap.size (fun _ => none) :=
  ⟨#[], 0, heap_alloc_new w _, fun e he => by simp at he, fun s i h => by cases h⟩
theorem make_u (w : World) (n : Nat) : (Instr.makeMap 72 (some (.int .i64 (n : Int)))).run Tryd.prog w = .ok (.map (some w.heap.size)) (w.alloc (.map #[] 0)) := by
  have h : (asInt (Value.int .i64 (n : Int))).run Tryd.prog w = .ok (n : Int) w := by rfl
  simp [Instr.makeMap, run_underlying Tryd.underlying72, h, Result.andThen]
end Go.Proofs.YthpledfjopbchaaDoor
/- Contract: chunk.firsts: where the first piece of each sum stands. Condition: at most a million pieces. -/
namespace Go.Proofs.YthpledfjopbchaaDoor
open Go.RowKit
/-- Where the first piece that says a sum stands. -/
def firstU (L : List Pc) (s : Su) : Option Nat := L.findIdx? fun p => decide (p.1 = s)
theorem firstU_snoc (A : List Pc) (p : Pc) (s : Su) : firstU (A ++ [p]) s = (firstU A s).or (if p.1 = s then some A.length else none) := by
  unfold firstU
  rw [List.findIdx?_append]
  congr 1
  by_cases h : p.1 = s
  · rw [if_pos h]; simp [h]
  · rw [if_neg h]; simp [h]
theorem firstU_new (A : List Pc) (p : Pc) (h : firstU A p.1 = none) : (fun t => if t = p.1 then some A.length else firstU A t) = firstU (A ++ [p]) := by
  funext t
  rw [firstU_snoc]
  by_cases ht : t = p.1
  · subst ht; rw [if_pos rfl, if_pos rfl, h]; rfl
  · rw [if_neg ht, if_neg (fun e => ht e.symm)]; simp
theorem firstU_old (A : List Pc) (p : Pc) {k : Nat} (h : firstU A p.1 = some k) : firstU A = firstU (A ++ [p]) := by
  funext t
  rw [firstU_snoc]
  by_cases ht : t = p.1
  · subst ht; rw [h]; rfl
  · rw [if_neg (fun e => ht e.symm)]; simp
theorem firstU_lt {L : List Pc} {s : Su} {i : Nat} (h : firstU L s = some i) : ∃ hi : i < L.length, L[i].1 = s := by
  unfold firstU at h
  obtain ⟨hi, h1, _⟩ := List.findIdx?_eq_some_iff_getElem.1 h
  exact ⟨hi, by simpa using h1⟩
theorem wpList_update {ops : Array Oper} {rest : List Oper} {o : Oper} {a : Act} {w w' : World} {Q : Exit → Act → World → Prop} (hgd : o.guard = none) (T : TypeId) (x y z : Operand) (ho : o.op = .mapUpdate T x y z) (vx vy vz : Value)
    (_hw : True) (hx : a.eval x = vx) (hy : a.eval y = vy) (hz : a.eval z = vz) (hr : (Instr.mapUpdate T vx vy vz).run Tryd.prog w = .ok () w')
    (h : wpList Tryd.prog ops Q rest (a.put o.dst undef) w') : wpList Tryd.prog ops Q (o :: rest) a w :=
  wpList_plain hgd fun _ hK => by
    unfold Oper.wp execOp
    simp only [ho, hx, hy, hz, Sem.run_bind, hr, Result.andThen_ok]
    exact hK _ _ h
set_option maxHeartbeats 4000000 in
set_option maxRecDepth 100000 in
theorem firsts_any (L : List Pc) (q : Option Addr) (c : Nat) (w : World) (hm : L.length ≤ 1000000) (hs : Sees w w.heap.size q (rowP L)) (hb : Pcb w L) :
    Calls Tryd.prog 30 #[.slice q L.length c] w fun e w' => e = .returned (.map (some w.heap.size)) ∧ MapU w' w.heap.size (firstU L) ∧ Below w.heap.size w w' := by
  have HS := Lib.hid hs
  have HP := Lib.hid hb
  have hmk := make_u w L.length
  have HM0 := Lib.hid (mapU_new w)
  have HB0 := Lib.hid ((Below.refl w.heap.size w).alloc (Nat.le_refl _) (.map #[] 0))
  clear hs hb
  go_enter Tryd.func30, Tryd.ntmps30
  go_upto_region 3 with fail
  clear hmk
  generalize w.alloc (.map #[] 0) = w1 at *
  obtain ⟨r, hr⟩ : ∃ r, r = w.heap.size := ⟨_, rfl⟩
  rw [← hr] at HM0 ⊢
  have HR := Lib.hid hr
  clear hr
  have HM1 : Hid (MapU w1 r (firstU (L.take 0))) := Lib.hid (by rw [List.take_zero]; exact HM0.out)
  clear HM0
  go_loopw [13] (fun vi wr => ∃ j : Nat, j ≤ L.length ∧ vi = .int .i64 j ∧ MapU wr r (firstU (L.take j)) ∧ Below w.heap.size w wr) (fun vi _ => L.length - (intOf vi).toNat)
  case atStart => exact ⟨0, by omega, rfl, HM1.out, HB0.out⟩
  case round =>
    clear HM1 HB0
    rename_i wr
    obtain ⟨j, hj, rfl, hmp, hB⟩ := hrel
    have HM := Lib.hid hmp
    have HB := Lib.hid hB
    clear hmp hB
    by_cases hlt : j < L.length
    · obtain ⟨ad, rfl, hab, hcell⟩ := Sees.pc (HS.out.keep HB.out) hlt
      obtain ⟨p, hp⟩ : ∃ p, p = L[j] := ⟨_, rfl⟩
      rw [← hp] at hcell
      have hone := (HP.out p (by rw [hp]; exact List.getElem_mem hlt)).one
      have HTK : Hid (L.take (j + 1) = L.take j ++ [p]) := Lib.hid (by rw [List.take_add_one, List.getElem?_eq_getElem hlt, ← hp]; rfl)
      have HTL : Hid ((L.take j).length = j) := Lib.hid (by rw [List.length_take]; omega)
      have HCELL := Lib.hid hcell
      have HONE := Lib.hid hone
      clear hcell hone hab hp
      have hjj : (j : Int) < (L.length : Int) := by omega
      have hll : j < 1000000 := by omega
      go_upto_region 4 with fail
      refine wp_region_lit ?_
      try simp only [Act.put, List.setIfInBounds_toArray, List.set_cons_zero, List.set_cons_succ]
      refine lp_pure (v := ?_) (by kernel_rfl) ?_ ?_
      rotate_left
      · go_simp; try with_reducible rfl
      try simp only [Act.put, List.setIfInBounds_toArray, List.set_cons_zero, List.set_cons_succ]
      refine lp_pure (v := ?_) (by kernel_rfl) ?_ ?_
      rotate_left
      · go_simp; try with_reducible rfl
      try simp only [Act.put, List.setIfInBounds_toArray, List.set_cons_zero, List.set_cons_succ]
      refine lp_pure (by kernel_rfl) (load_pc 33 28 elPc (.tmp 16) rfl (ad.add (j * 33)) rfl p (HCELL.out _ (Below.refl _ _))) ?_
      try simp only [Act.put, List.setIfInBounds_toArray, List.set_cons_zero, List.set_cons_succ]
      refine wpList_alloc rfl _ rfl zPc (zPc_run wr) ?_
      try simp only [Act.put, List.setIfInBounds_toArray, List.set_cons_zero, List.set_cons_succ]
      refine lp_pure (v := ?_) (by kernel_rfl) ?_ ?_
      rotate_left
      · go_simp; try with_reducible rfl
      try simp only [Act.put, List.setIfInBounds_toArray, List.set_cons_zero, List.set_cons_succ]
      have hh : Has (wr.alloc (.cells zPc 28)) wr.heap.size 28 zPc.toList := Has.made' _ _ _ _ (by simp)
      refine wpList_store_row rfl _ (.tmp 5) (.tmp 17) rfl wr.heap.size (encP p).toArray rfl rfl _ zPc.toList.toArray hh (by rw [szPc, List.size_toArray, encP_len]) (by rw [List.size_toArray, List.size_toArray, encP_len]; exact zPc_size) (encP_all HONE.out) ?_
      have HAS := Lib.hid (hh.rowl (encP p))
      have HB7 := Lib.hid (below_row ((Below.refl wr.heap.size wr).alloc (Nat.le_refl _) (.cells zPc 28)) (Nat.le_refl _) (encP p).toArray)
      clear hh
      generalize (wr.alloc (.cells zPc 28)).setRow wr.heap.size (encP p).toArray = w7 at *
      have HM7 := Lib.hid (HM.out.keep HB7.out HM.out.lt)
      have HBW := Lib.hid (HB.out.trans (HB7.out.mono HB.out.size))
      have HRN : Hid (r ≠ wr.heap.size) := Lib.hid (by have := HM.out.lt; omega)
      have hlk := lookup_u HM7.out p.1
      unfold aggU at hlk
      generalize wr.heap.size = g at *
      simp only [Act.put]
      refine wpList_nil ?_
      go_upto_region 5 with fail
      refine wp_region_lit ?_
      try simp only [Act.put, List.setIfInBounds_toArray, List.set_cons_zero, List.set_cons_succ]
      refine lp_pure (v := ?_) (by kernel_rfl) ?_ ?_
      rotate_left
      · go_simp; try with_reducible rfl
      try simp only [Act.put, List.setIfInBounds_toArray, List.set_cons_zero, List.set_cons_succ]
      refine lp_pure (v := ?_) (by kernel_rfl) ?_ ?_
      rotate_left
      · go_simp; try with_reducible rfl
      try simp only [Act.put, List.setIfInBounds_toArray, List.set_cons_zero, List.set_cons_succ]
      refine lp_pure (by kernel_rfl) (load_su 24 (.tmp 20) rfl ⟨g, 0, none⟩ rfl elSum.2.1 szSum p.1 (fun j u hu => by rw [add_lit', Nat.zero_add]; exact HAS.out.cellv (encP_su hu))) ?_
      try simp only [Act.put, List.setIfInBounds_toArray, List.set_cons_zero, List.set_cons_succ]
      refine lp_pure (v := ?_) (by kernel_rfl) ?_ ?_
      rotate_left
      · go_simp; try with_reducible rfl
      try simp only [Act.put, List.setIfInBounds_toArray, List.set_cons_zero, List.set_cons_succ]
      refine lp_pure (v := ?_) (by kernel_rfl) ?_ ?_
      rotate_left
      · go_simp; try with_reducible rfl
      try simp only [Act.put, List.setIfInBounds_toArray, List.set_cons_zero, List.set_cons_succ]
      refine lp_pure (v := ?_) (by kernel_rfl) ?_ ?_
      rotate_left
      · go_simp; try with_reducible rfl
      try simp only [Act.put, List.setIfInBounds_toArray, List.set_cons_zero, List.set_cons_succ]
      refine lp_pure (v := ?_) (by kernel_rfl) ?_ ?_
      rotate_left
      · go_simp; try with_reducible rfl
      try simp only [Act.put, List.setIfInBounds_toArray, List.set_cons_zero, List.set_cons_succ]
      refine lp_pure (v := ?_) (by kernel_rfl) ?_ ?_
      rotate_left
      · go_simp; try with_reducible rfl
      try simp only [Act.put, List.setIfInBounds_toArray, List.set_cons_zero, List.set_cons_succ]
      refine lp_pure (v := ?_) (by kernel_rfl) ?_ ?_
      rotate_left
      · go_simp; try with_reducible rfl
      try simp only [Act.put, List.setIfInBounds_toArray, List.set_cons_zero, List.set_cons_succ]
      refine wpList_nil ?_
      clear hlk
      cases hf : firstU (L.take j) p.1 with
      | some k =>
        simp only [Option.isSome_some]
        go_wp2_with fail
        go_roundw
        case rel =>
          refine ⟨j + 1, by omega, by go_num, ?_, HBW.out⟩
          rw [HTK.out, ← firstU_old _ _ hf]; exact HM7.out
        case measure => simp [intOf]; omega
      | none =>
        simp only [Option.isSome_none]
        obtain ⟨ob, hup, hmu⟩ := update_u HM7.out p.1 hf j
        have HMU : Hid (MapU { w7 with heap := w7.heap.setIfInBounds r ob } r (firstU (L.take (j + 1)))) := Lib.hid (by
          rw [HTK.out, ← firstU_new _ _ hf, HTL.out]; exact hmu)
        have HB8 : Hid (Below w.heap.size w { w7 with heap := w7.heap.setIfInBounds r ob }) := Lib.hid (below_map HBW.out (by rw [HR.out]; exact Nat.le_refl _) ob)
        unfold aggU at hup
        clear hmu hf
        go_upto_region 7 with fail
        refine wp_region_lit ?_
        try simp only [Act.put, List.setIfInBounds_toArray, List.set_cons_zero, List.set_cons_succ]
        refine lp_pure (v := ?_) (by kernel_rfl) ?_ ?_
        rotate_left
        · go_simp; try with_reducible rfl
        try simp only [Act.put, List.setIfInBounds_toArray, List.set_cons_zero, List.set_cons_succ]
        refine lp_pure (v := ?_) (by kernel_rfl) ?_ ?_
        rotate_left
        · go_simp; try with_reducible rfl
        try simp only [Act.put, List.setIfInBounds_toArray, List.set_cons_zero, List.set_cons_succ]
        refine lp_pure (by kernel_rfl) (load_su 24 (.tmp 28) rfl ⟨g, 0, none⟩ rfl elSum.2.1 szSum p.1 (fun j u hu => by rw [add_lit', Nat.zero_add]; exact HAS.out.cellv (encP_su hu))) ?_
        try simp only [Act.put, List.setIfInBounds_toArray, List.set_cons_zero, List.set_cons_succ]
        refine lp_pure (v := ?_) (by kernel_rfl) ?_ ?_
        rotate_left
        · go_simp; try with_reducible rfl
        try simp only [Act.put, List.setIfInBounds_toArray, List.set_cons_zero, List.set_cons_succ]
        refine wpList_update rfl 72 (.tmp 27) (.tmp 29) (.tmp 30) rfl _ _ _ trivial rfl rfl rfl hup ?_
        simp only [Act.put]
        refine wpList_nil ?_
        go_wp2_with fail
        go_roundw
        case rel => exact ⟨j + 1, by omega, by go_num, HMU.out, HB8.out⟩
        case measure => simp [intOf]; omega
    · have hjl : j = L.length := by omega
      subst hjl
      have k3 : ¬ ((L.length : Int) < (L.length : Int)) := by omega
      have hmf := HM.out
      rw [List.take_length] at hmf
      have HMF := Lib.hid hmf
      clear hlt hmf
      go_wp2_with fail
      go_ret
      exact ⟨by rw [← HR.out]; rfl, by rw [← HR.out]; exact HMF.out, HB.out⟩
end Go.Proofs.YthpledfjopbchaaDoor
/- Contract: chunk.Join: pieces put together. Conditions: at most a million names and pieces, no piece of more than a million bytes; the sums' tables are laid. -/
namespace Go.Proofs.YthpledfjopbchaaDoor
open Go.RowKit
/-- The bytes of each name's piece, one behind the other; or what is wrong. -/
def joinA (L : List Pc) : List Su → List (BitVec 8) → List (BitVec 8) × Nat
  | [], acc => (acc, 0)
  | s :: N, acc => match firstU L s with
    | none => ([], 5)
    | some i => match L[i]? with
      | none => ([], 5)
      | some p => if goodPc p then joinA L N (acc ++ p.2.2) else ([], 11)
theorem joinA_nil (L : List Pc) (acc : List (BitVec 8)) : joinA L [] acc = (acc, 0) := rfl
theorem joinA_none {L : List Pc} {s : Su} {N : List Su} {acc : List (BitVec 8)} (h : firstU L s = none) : joinA L (s :: N) acc = ([], 5) := by
  unfold joinA; rw [h]
theorem joinA_bad {L : List Pc} {s : Su} {N : List Su} {acc : List (BitVec 8)} {i : Nat} (h : firstU L s = some i) (hi : i < L.length) (hg : goodPc L[i] = false) : joinA L (s :: N) acc = ([], 11) := by
  rw [joinA]; simp only [h, List.getElem?_eq_getElem hi]; rw [if_neg (by rw [hg]; simp)]
theorem joinA_good {L : List Pc} {s : Su} {N : List Su} {acc : List (BitVec 8)} {i : Nat} (h : firstU L s = some i) (hi : i < L.length) (hg : goodPc L[i] = true) : joinA L (s :: N) acc = joinA L N (acc ++ L[i].2.2) := by
  rw [joinA]; simp only [h, List.getElem?_eq_getElem hi]; rw [if_pos hg]
theorem good_len {p : Pc} (h : goodPc p = true) : p.2.2.length ≤ 128 := by
  unfold goodPc at h
  rw [Bool.and_eq_true, Bool.and_eq_true, decide_eq_true_iff, decide_eq_true_iff] at h
  exact h.1.2
set_option maxHeartbeats 8000000 in
set_option maxRecDepth 100000 in
theorem join_any (N : List Su) (L : List Pc) (qn ql : Option Addr) (cn cl : Nat) (w : World) (hn : N.length ≤ 1000000) (hm : L.length ≤ 1000000) (hs : Sees w w.heap.size qn (rowU N)) (hl : Sees w w.heap.size ql (rowP L)) (hb : Pcb w L) (hx : ∀ p ∈ L, p.2.2.length ≤ 1000000) (hL : Laid w) :
    Calls Tryd.prog 10 #[.slice qn N.length cn, .slice ql L.length cl] w fun e w' => (∃ v, e = .returned (.tuple #[v, .int .i64 ((joinA L N []).2 : Nat)]) ∧ Bs w' v (joinA L N []).1) ∧ Below w.heap.size w w' := by
  have HF := Lib.hid (firsts_any L ql cl w hm hl hb)
  have HJ0 : Hid (joinA L N [] = joinA L (N.drop 0) []) := Lib.hid (by rw [List.drop_zero])
  obtain ⟨J, hJ⟩ : ∃ J, J = joinA L N [] := ⟨_, rfl⟩
  rw [← hJ] at HJ0 ⊢
  clear hJ
  have HS := Lib.hid hs
  have HLP := Lib.hid hl
  have HPB := Lib.hid hb
  have HX := Lib.hid hx
  have HL := Lib.hid hL
  have HSZ := Lib.hid hL.size
  clear hs hl hb hx hL
  go_enter Tryd.func10, Tryd.ntmps10
  go_upto_region 3 with ((with_reducible refine HF.out.mono ?_); rintro e w0 ⟨rfl, h1, h2⟩; have HM0 := Lib.hid h1; have HB0 := Lib.hid h2; clear h1 h2)
  clear HF
  obtain ⟨r, hr⟩ : ∃ r, r = w.heap.size := ⟨_, rfl⟩
  rw [← hr] at HM0 ⊢
  have HR := Lib.hid hr
  clear hr
  go_upto_region 4 with fail
  have HNIL := Lib.hid (World.ownsRow_nil w0 w0.heap.size 5 1)
  go_loopw [7, 16] (fun v vi wr => ∃ (j : Nat) (acc : List (BitVec 8)), j ≤ N.length ∧ vi = .int .i64 j ∧ acc.length ≤ 128 * j ∧ J = joinA L (N.drop j) acc ∧ wr.ownsRow w0.heap.size 5 1 v acc.length (acc.map u8v) ∧ Below w0.heap.size w0 wr) (fun _ vi _ => N.length - (intOf vi).toNat)
  case atStart => exact ⟨0, [], by omega, rfl, by simp, HJ0.out, HNIL.out, Below.refl _ _⟩
  case round =>
    clear HJ0 HNIL
    rename_i wr
    obtain ⟨j, acc, hj, rfl, hal, hJ, hrow, hB⟩ := hrel
    have HROW := Lib.hid hrow
    have HB := Lib.hid hB
    have HJ := Lib.hid hJ
    have HAL := Lib.hid hal
    clear hrow hB hJ hal
    have HBW := Lib.hid (HB0.out.trans (HB.out.mono HB0.out.size))
    by_cases hlt : j < N.length
    · obtain ⟨an, rfl, _, hcn⟩ := Ss.el (HS.out.keep HBW.out) hlt
      have hdr : N.drop j = N[j] :: N.drop (j + 1) := List.drop_eq_getElem_cons hlt
      obtain ⟨s, hsx⟩ : ∃ s, s = N[j] := ⟨_, rfl⟩
      rw [← hsx] at hcn hdr
      rw [hdr] at HJ
      have HCN := Lib.hid hcn
      clear hcn hsx hdr
      have hjj : (j : Int) < (N.length : Int) := by omega
      have hll : j < 1000000 := by omega
      go_upto_region 5 with fail
      refine wp_region_lit ?_
      try simp only [Act.put, List.setIfInBounds_toArray, List.set_cons_zero, List.set_cons_succ]
      refine lp_pure (v := ?_) (by kernel_rfl) ?_ ?_
      rotate_left
      · go_simp; try with_reducible rfl
      try simp only [Act.put, List.setIfInBounds_toArray, List.set_cons_zero, List.set_cons_succ]
      refine lp_pure (by kernel_rfl) (load_su 24 (.tmp 18) rfl (an.add (j * 32)) rfl elSum.2.1 szSum s (HCN.out _ (Below.refl _ _))) ?_
      try simp only [Act.put, List.setIfInBounds_toArray, List.set_cons_zero, List.set_cons_succ]
      refine wp_copy_su rfl 24 (zSu_run wr) szSum rfl rfl (.tmp 9) (.tmp 19) rfl s rfl rfl ?_
      intro w7 h1 h2
      have HAS := Lib.hid h1
      have HB7 := Lib.hid h2
      clear h1 h2
      have HB77 := Lib.hid (HB.out.trans (HB7.out.mono HB.out.size))
      have HM7 := Lib.hid (HM0.out.keep HB77.out HM0.out.lt)
      have HROW7 := Lib.hid (own_keep HROW.out HB7.out (fun k hk => hk))
      have hlk := lookup_u HM7.out s
      unfold aggU at hlk
      generalize wr.heap.size = g at *
      try simp only [Act.put, List.setIfInBounds_toArray, List.set_cons_zero, List.set_cons_succ]
      refine wpList_nil ?_
      go_upto_region 6 with fail
      refine wp_region_lit ?_
      try simp only [Act.put, List.setIfInBounds_toArray, List.set_cons_zero, List.set_cons_succ]
      refine lp_pure (v := ?_) (by kernel_rfl) ?_ ?_
      rotate_left
      · go_simp; try with_reducible rfl
      try simp only [Act.put, List.setIfInBounds_toArray, List.set_cons_zero, List.set_cons_succ]
      refine lp_pure (by kernel_rfl) (load_su 24 (.tmp 9) rfl ⟨g, 0, none⟩ rfl elSum.2.1 szSum s (fun j u hu => by rw [add_lit', Nat.zero_add]; exact HAS.out.cellv hu)) ?_
      try simp only [Act.put, List.setIfInBounds_toArray, List.set_cons_zero, List.set_cons_succ]
      refine lp_pure (v := ?_) (by kernel_rfl) ?_ ?_
      rotate_left
      · go_simp; try with_reducible rfl
      try simp only [Act.put, List.setIfInBounds_toArray, List.set_cons_zero, List.set_cons_succ]
      refine lp_pure (v := ?_) (by kernel_rfl) ?_ ?_
      rotate_left
      · go_simp; try with_reducible rfl
      try simp only [Act.put, List.setIfInBounds_toArray, List.set_cons_zero, List.set_cons_succ]
      refine lp_pure (v := ?_) (by kernel_rfl) ?_ ?_
      rotate_left
      · go_simp; try with_reducible rfl
      try simp only [Act.put, List.setIfInBounds_toArray, List.set_cons_zero, List.set_cons_succ]
      refine lp_pure (v := ?_) (by kernel_rfl) ?_ ?_
      rotate_left
      · go_simp; try with_reducible rfl
      try simp only [Act.put, List.setIfInBounds_toArray, List.set_cons_zero, List.set_cons_succ]
      refine lp_pure (v := ?_) (by kernel_rfl) ?_ ?_
      rotate_left
      · go_simp; try with_reducible rfl
      try simp only [Act.put, List.setIfInBounds_toArray, List.set_cons_zero, List.set_cons_succ]
      refine lp_pure (v := ?_) (by kernel_rfl) ?_ ?_
      rotate_left
      · go_simp; try with_reducible rfl
      try simp only [Act.put, List.setIfInBounds_toArray, List.set_cons_zero, List.set_cons_succ]
      refine wpList_nil ?_
      clear hlk
      cases hf : firstU L s with
      | none =>
        simp only [Option.isSome_none]
        have HE : Hid (J = ([], 5)) := Lib.hid (HJ.out.trans (joinA_none hf))
        clear hf
        go_wp2_with fail
        (try simp only [Exit.inBlock, Exit.then]); refine bodyPost_ret (results_tmp2 rfl _ _ _) rfl ?_
        rw [HE.out]
        exact ⟨⟨_, rfl, Bs.nil _⟩, HB0.out.trans (HB77.out.mono HB0.out.size)⟩
      | some m =>
        simp only [Option.isSome_some, Option.getD_some]
        obtain ⟨hml, hms⟩ := firstU_lt hf
        have HBL := Lib.hid (HB0.out.trans (HB77.out.mono HB0.out.size))
        obtain ⟨al, rfl, _, hcp⟩ := Sees.pc (HLP.out.keep HBL.out) hml
        have hmem : L[m] ∈ L := List.getElem_mem hml
        have hbs := (HPB.out _ hmem).keep HBL.out
        have hxl := HX.out _ hmem
        have HGT : Hid (goodPc L[m] = true → J = joinA L (N.drop (j + 1)) (acc ++ L[m].2.2) ∧ L[m].2.2.length ≤ 128) := Lib.hid (fun hg => ⟨HJ.out.trans (joinA_good hf hml hg), good_len hg⟩)
        have HGF : Hid (goodPc L[m] = false → J = ([], 11)) := Lib.hid (fun hg => HJ.out.trans (joinA_bad hf hml hg))
        obtain ⟨p, hp⟩ : ∃ p, p = L[m] := ⟨_, rfl⟩
        rw [← hp] at hcp hbs hxl HGT HGF
        have HCP := Lib.hid hcp
        have HBS := Lib.hid hbs
        have HGD := Lib.hid (pgood_any p w7 hbs (by omega) (HL.out.keep HBL.out HSZ.out))
        have km : (m : Int) < (L.length : Int) := by omega
        clear hcp hbs hxl hp hmem hms hf
        go_upto_region 9 with fail
        refine wp_region_lit ?_
        try simp only [Act.put, List.setIfInBounds_toArray, List.set_cons_zero, List.set_cons_succ]
        refine lp_pure (v := ?_) (by kernel_rfl) ?_ ?_
        rotate_left
        · go_simp; try with_reducible rfl
        try simp only [Act.put, List.setIfInBounds_toArray, List.set_cons_zero, List.set_cons_succ]
        refine lp_pure (v := ?_) (by kernel_rfl) ?_ ?_
        rotate_left
        · go_simp; try with_reducible rfl
        try simp only [Act.put, List.setIfInBounds_toArray, List.set_cons_zero, List.set_cons_succ]
        refine lp_pure (v := ?_) (by kernel_rfl) ?_ ?_
        rotate_left
        · go_simp; try with_reducible rfl
        try simp only [Act.put, List.setIfInBounds_toArray, List.set_cons_zero, List.set_cons_succ]
        refine lp_pure (by kernel_rfl) (load_pc 33 28 elPc (.tmp 30) rfl (al.add (m * 33)) rfl p (HCP.out _ (Below.refl _ _))) ?_
        try simp only [Act.put, List.setIfInBounds_toArray, List.set_cons_zero, List.set_cons_succ]
        refine lp_step (by kernel_rfl) (fun K hK => ?_)
        go_wp2_with fail
        refine Calls.mono (HGD.out) ?_
        rintro e w8 ⟨rfl, hB8⟩
        have HB8 := Lib.hid hB8
        have HBE := Lib.hid (HBL.out.trans (hB8.mono HBL.out.size))
        clear hB8
        refine hK _ _ ?_
        clear hK
        try simp only [Act.put, List.setIfInBounds_toArray, List.set_cons_zero, List.set_cons_succ]
        refine lp_pure (v := ?_) (by kernel_rfl) ?_ ?_
        rotate_left
        · go_simp; try with_reducible rfl
        try simp only [Act.put, List.setIfInBounds_toArray, List.set_cons_zero, List.set_cons_succ]
        refine wpList_nil ?_
        cases hg : goodPc p with
        | false =>
          have HE := Lib.hid (HGF.out hg)
          clear hg
          go_wp2_with fail
          (try simp only [Exit.inBlock, Exit.then]); refine bodyPost_ret (results_tmp2 rfl _ _ _) rfl ?_
          rw [HE.out]
          exact ⟨⟨_, rfl, Bs.nil _⟩, HBE.out⟩
        | true =>
          obtain ⟨hE, hpl⟩ := HGT.out hg
          have HE := Lib.hid hE
          have HPL := Lib.hid hpl
          have HROW8 := Lib.hid (own_keep HROW7.out HB8.out (fun k hk => hk))
          obtain ⟨qp, cp, hpv, hcp1, hqp, hsp⟩ := HBS.out.keep HB8.out
          have c32 := HCP.out w8 (HB8.out.mono HBL.out.size) 32 _ (encP_b p)
          rw [hpv] at c32
          have e32 : (⟨(al.add (m * 33)).block, (al.add (m * 33)).off + 32, none⟩ : Addr) = (al.add (m * 33)).add 32 := rfl
          rw [← e32] at c32
          have HQP := Lib.hid hqp
          have HSP := Lib.hid hsp
          have HLE : Hid (acc.length + p.2.2.length ≤ 140737488355328) := Lib.hid (by have := HAL.out; omega)
          have HBZ : Hid (w0.heap.size ≤ w8.heap.size) := Lib.hid (Nat.le_trans HB77.out.size HB8.out.size)
          clear hg hE hpl hpv hcp1 hqp hsp e32
          go_wp2_with (refine wpList_append_sees rfl (.tmp 34) (.tmp 39) rfl w0.heap.size _ acc.length (acc.map u8v) rfl HROW8.out qp p.2.2 cp w8.heap.size rfl HQP.out HSP.out HLE.out HBZ.out ?_; intro v9 w9 h1 h2; have HROW9 := Lib.hid h1; have HB9 := Lib.hid h2; clear h1 h2)
          go_roundw
          case rel =>
            have hr := HROW9.out
            rw [← List.length_append, ← List.map_append] at hr
            exact ⟨j + 1, acc ++ p.2.2, by omega, by go_num, by rw [List.length_append]; have h1 := HAL.out; have h2 := HPL.out; omega, HE.out, hr, (HB77.out.trans (HB8.out.mono HB77.out.size)).trans HB9.out⟩
          case measure => simp [intOf]; omega
    · have hjl : j = N.length := by omega
      subst hjl
      have k3 : ¬ ((N.length : Int) < (N.length : Int)) := by omega
      have hj0 := HJ.out
      rw [List.drop_length, joinA_nil] at hj0
      have HE := Lib.hid hj0
      have HBO := Lib.hid (Bs.own HROW.out)
      clear hlt hj0
      go_wp2_with fail
      (try simp only [Exit.inBlock, Exit.then]); refine bodyPost_ret (results_tmp2 rfl _ _ _) rfl ?_
      rw [HE.out]
      exact ⟨⟨_, rfl, HBO.out⟩, HBW.out⟩
end Go.Proofs.YthpledfjopbchaaDoor
/- Contract: chunk.All: the names of all. Conditions: at most a hundred texts of at most a thousand bytes; the sums' tables are laid. -/
namespace Go.Proofs.YthpledfjopbchaaDoor
open Go.RowKit
def namesA (L : List (List (BitVec 8))) : List Su := L.flatMap namesU
theorem namesA_take (L : List (List (BitVec 8))) (i : Nat) (h : i < L.length) : namesA (L.take (i + 1)) = namesA (L.take i) ++ namesU L[i] := by
  unfold namesA
  rw [List.take_add_one, List.getElem?_eq_getElem h, List.flatMap_append]; simp
theorem namesA_len (L : List (List (BitVec 8))) (m : Nat) (h : ∀ x ∈ L, (namesU x).length ≤ m) : (namesA L).length ≤ L.length * m := by
  induction L with
  | nil => simp [namesA]
  | cons x L ih =>
    have h1 := h x (List.mem_cons_self ..)
    have h2 := ih fun y hy => h y (List.mem_cons_of_mem _ hy)
    show (namesU x ++ namesA L).length ≤ _
    rw [List.length_append, List.length_cons, Nat.succ_mul]; omega
theorem Ps.at {w : World} {q : Option Addr} {n c : Nat} {L : List (List (BitVec 8))} (h : Ps w (.slice q n c) L) {i : Nat} (hi : i < L.length) :
    ∃ (a : Addr) (u : Value), q = some a ∧ Bs w u L[i] ∧ ∀ w', Below w.heap.size w w' → w'.cell? (a.add i) = some u := by
  obtain ⟨q', c', vs, e, hs, hl, hb⟩ := h
  cases e
  have hi' : i < vs.length := by rw [hl]; exact hi
  obtain ⟨a, rfl, ha, hc⟩ := hs.get (by omega)
  refine ⟨a, vs[i], rfl, hb i _ _ (List.getElem?_eq_getElem hi') (List.getElem?_eq_getElem hi), fun w' hw => ?_⟩
  rw [hw.cell (by rw [add_block]; exact ha)]
  exact hc i _ (List.getElem?_eq_getElem hi')
set_option maxHeartbeats 4000000 in
set_option maxRecDepth 100000 in
theorem all_any (L : List (List (BitVec 8))) (q : Option Addr) (c : Nat) (w : World) (hP : Ps w (.slice q L.length c) L) (hn : L.length ≤ 100) (hx : ∀ x ∈ L, x.length ≤ 1000) (hL : Laid w) :
    Calls Tryd.prog 13 #[.slice q L.length c] w fun e w' => (∃ v, e = .returned v ∧ OwnU w' w.heap.size 24 v (srt (namesA L))) ∧ Below w.heap.size w w' := by
  have HP := Lib.hid hP
  have HX := Lib.hid hx
  have HL := Lib.hid hL
  have HSZ := Lib.hid hL.size
  have HNM : Hid (∀ x ∈ L, (namesU x).length ≤ 1000) := Lib.hid (fun x h => Nat.le_trans (namesU_length x) (hx x h))
  have HTOT : Hid (∀ i, (namesA (L.take i)).length ≤ 100000) := Lib.hid (fun i => by
    have h1 := namesA_len (L.take i) 1000 fun x hx => HNM.out x (List.mem_of_mem_take hx)
    have h2 : (L.take i).length ≤ 100 := by rw [List.length_take]; omega
    have h3 := Nat.mul_le_mul_right 1000 h2
    omega)
  have HNIL := Lib.hid (OwnU.nil w w.heap.size 24)
  clear hP hx hL
  go_enter Tryd.func13, Tryd.ntmps13
  go_upto_region 3 with fail
  go_loopw [3, 8] (fun v vi wr => ∃ j : Nat, j ≤ L.length ∧ vi = .int .i64 j ∧ OwnU wr w.heap.size 24 v (namesA (L.take j)) ∧ Below w.heap.size w wr) (fun _ vi _ => L.length - (intOf vi).toNat)
  case atStart => exact ⟨0, by omega, rfl, HNIL.out, Below.refl _ _⟩
  case round =>
    clear HNIL
    rename_i wr
    obtain ⟨j, hj, rfl, hrow, hB⟩ := hrel
    have HROW := Lib.hid hrow
    have HB := Lib.hid hB
    clear hrow hB
    by_cases hlt : j < L.length
    · obtain ⟨ad, u, rfl, hbs, hcell⟩ := HP.out.at hlt
      have hmem : L[j] ∈ L := List.getElem_mem hlt
      have hxl := HX.out _ hmem
      have HNA := Lib.hid (namesA_take L j hlt)
      have hnm := HNM.out _ hmem
      obtain ⟨x, hx⟩ : ∃ x, x = L[j] := ⟨_, rfl⟩
      rw [← hx] at hbs HNA hxl hnm
      have HBS := Lib.hid hbs
      obtain ⟨qx, cx, rfl, hcx, hqx, hsx⟩ := hbs
      have c1 := hcell wr HB.out
      have HNAMES := Lib.hid (names_any x qx cx wr hcx hqx (by omega) ((hsx.keep HB.out).more HB.out.size) (HL.out.keep HB.out HSZ.out))
      have kk : (j : Int) < (L.length : Int) := by omega
      have HLEN : Hid ((namesA (L.take j)).length + (namesU x).length ≤ 4000000) := Lib.hid (by have := HTOT.out j; omega)
      have HBSZ := Lib.hid HB.out.size
      clear hcell hx hmem hcx hqx hsx hxl hnm
      go_wp2_with (first
        | ((with_reducible refine HNAMES.out.mono ?_); rintro e w4 ⟨⟨v4, rfl, h1⟩, h2⟩; obtain ⟨q4, c4, rfl, hc4, hq4, hs4⟩ := h1.us; have HB4 := Lib.hid h2; have HS4 := Lib.hid hs4; have HQ4 := Lib.hid hq4; have HROW4 := Lib.hid (HROW.out.keep h2); clear h1 h2 hs4 hq4 hc4)
        | (refine wpList_append_su rfl 32 24 elSum (.tmp 12) (.tmp 14) rfl w.heap.size _ (namesA (L.take j)) rfl HROW4.out q4 (namesU x) (namesU x).length c4 w4.heap.size rfl rfl HQ4.out HS4.out HLEN.out (Nat.le_trans HBSZ.out HB4.out.size) ?_; intro v5 w5 h1 h2; have HROW5 := Lib.hid h1; have HB5 := Lib.hid h2; clear h1 h2))
      go_roundw
      case rel => exact ⟨j + 1, by omega, by go_num, by rw [HNA.out]; exact HROW5.out, (HB.out.trans (HB4.out.mono HBSZ.out)).trans HB5.out⟩
      case measure => simp [intOf]; omega
    · have hjl : j = L.length := by omega
      subst hjl
      have kk : ¬ ((L.length : Int) < (L.length : Int)) := by omega
      have hrow := HROW.out
      rw [List.take_length] at hrow
      obtain ⟨q4, c4, rfl, hc4, hq4, hs4⟩ := hrow.us
      have hlen : (namesA L).length ≤ 1000000 := by have := HTOT.out L.length; rw [List.take_length] at this; omega
      have HOF := Lib.hid (setOf_any (namesA L) q4 c4 hlen wr hs4)
      clear hlt hrow hc4 hq4 hs4 hlen HROW
      go_wp2_with ((with_reducible refine HOF.out.mono ?_); rintro e w5 ⟨⟨v5, rfl, h1⟩, h2⟩; have HO5 := Lib.hid h1; have HB5 := Lib.hid h2; clear h1 h2)
      go_ret
      exact ⟨⟨_, rfl, HO5.out.less HB.out.size⟩, HB.out.trans (HB5.out.mono HB.out.size)⟩
end Go.Proofs.YthpledfjopbchaaDoor
/- For ChunkKnown: closed facts: its pieces' sums, what Join and All answer of them. No condition. -/
namespace Go.Proofs.YthpledfjopbchaaDoor
open Go.RowKit
def tA : List (BitVec 8) := [97#8]
def tB : List (BitVec 8) := [98#8]
def tX : List (BitVec 8) := [120#8]
def tZ : List (BitVec 8) := [122#8]
def tQ : List (BitVec 8) := [113#8]
def sA : Su := shaU tA
def sB : Su := shaU tB
def sQ : Su := shaU tQ
theorem ne_BA : decide (sB = sA) = false := by kernel_rfl
theorem ne_AQ : decide (sA = sQ) = false := by kernel_rfl
theorem ne_XB : decide (shaU tX = sB) = false := by kernel_rfl
theorem ne_ZA : decide (shaU tZ = sA) = false := by kernel_rfl
theorem gd_A (v : Value) : goodPc (sA, v, tA) = true := by
  unfold goodPc
  rw [decide_eq_true (show shaU (sA, v, tA).2.2 = (sA, v, tA).1 from rfl)]; rfl
theorem gd_X (v : Value) : goodPc (sB, v, tX) = false := by
  unfold goodPc
  show (decide (1 ≤ tX.length) && decide (tX.length ≤ 128) && decide (shaU tX = sB)) = false
  rw [ne_XB, Bool.and_false]
theorem gd_Z (v : Value) : goodPc (sA, v, tZ) = false := by
  unfold goodPc
  show (decide (1 ≤ tZ.length) && decide (tZ.length ≤ 128) && decide (shaU tZ = sA)) = false
  rw [ne_ZA, Bool.and_false]
theorem gd_0 (s : Su) (v : Value) : goodPc (s, v, []) = false := rfl
theorem gd_129 (s : Su) (v : Value) : goodPc (s, v, List.replicate 129 0#8) = false := by
  unfold goodPc
  show (decide (1 ≤ (List.replicate 129 0#8).length) && decide ((List.replicate 129 0#8).length ≤ 128) && _) = false
  rw [List.length_replicate]; rfl
theorem fu_0 (s : Su) (v : Value) (x : List (BitVec 8)) (L : List Pc) : firstU ((s, v, x) :: L) s = some 0 := by
  unfold firstU; simp [List.findIdx?_cons]
theorem fu_1 {s t : Su} (v : Value) (x : List (BitVec 8)) (L : List Pc) (h : decide (t = s) = false) : firstU ((t, v, x) :: L) s = (firstU L s).map (· + 1) := by
  unfold firstU
  rw [List.findIdx?_cons]
  simp only [h]; rfl
theorem fu_n (s : Su) : firstU [] s = none := rfl
theorem jn1 (va vx : Value) : joinA [(sB, vx, tX), (sA, va, tA)] [sA, sA] [] = ([97#8, 97#8], 0) := by
  have hf : firstU [(sB, vx, tX), (sA, va, tA)] sA = some 1 := by rw [fu_1 _ _ _ ne_BA, fu_0]; rfl
  rw [joinA_good hf (by simp) (gd_A va), joinA_good hf (by simp) (gd_A va)]
  rfl
theorem jn2 (va : Value) : joinA [(sA, va, tA)] [sA, sQ] [] = ([], 5) := by
  rw [joinA_good (fu_0 sA va tA []) (by simp) (gd_A va)]
  exact joinA_none (by rw [fu_1 _ _ _ ne_AQ, fu_n]; rfl)
theorem jn3 (vx : Value) : joinA [(sB, vx, tX)] [sB, sQ] [] = ([], 11) := joinA_bad (fu_0 sB vx tX []) (by simp) (gd_X vx)
theorem jn4 (vz va : Value) : joinA [(sA, vz, tZ), (sA, va, tA)] [sA] [] = ([], 11) := joinA_bad (fu_0 sA vz tZ _) (by simp) (gd_Z vz)
theorem nm_A : namesU tA = [sA] := by kernel_rfl
theorem nm_B : namesU tB = [sB] := by kernel_rfl
theorem al_3s : (srt [sA, sA, sB]).length = 2 := by kernel_rfl
theorem al_3 : (srt (namesA [tA, tA, tB])).length = 2 := by
  have e : namesA [tA, tA, tB] = [sA, sA, sB] := by unfold namesA; simp [nm_A, nm_B]
  rw [e]; exact al_3s
theorem al_2 : goodU (srt (namesA [tA, tB])) = true := by
  have e : namesA [tA, tB] = [sA, sB] := by unfold namesA; simp [nm_A, nm_B]
  rw [e]
  unfold goodU
  rw [decide_eq_true (asc_srt _), decide_eq_true (Nat.le_trans (len_srt_le _) (by decide))]; rfl
theorem al_0 : srt (namesA []) = [] := rfl
end Go.Proofs.YthpledfjopbchaaDoor
/- A region that draws its order, walked by state and not by path: an invariant J of what is listed, the slots and the memory, which each operation that may come up keeps (one proof an operation, whatever came before it); the states lie level by level, and the kernel checks that each one's ready operations are foreseen and lead to the next level. No condition. -/
namespace Go.Proofs.YthpledfjopbchaaDoor
section
variable {P : Program} {md : Region.Mode} {ops : Array Oper} {Q : Exit → Act → World → Prop} {S : World → Prop}
/-- Each state of a level has something ready; each that is ready is foreseen (C) and leads to a state of the next level. -/
def levelsB (md : Region.Mode) (ops : Array Oper) (C : Nat → Array Bool → Bool) : List (List (Array Bool)) → Bool
  | [] => true
  | [_] => true
  | E :: E' :: r => (E.all fun l => !(Region.ready md ops l).isEmpty && (Region.ready md ops l).all fun j => C j l && E'.contains (l.setIfInBounds j true)) && levelsB md ops C (E' :: r)
theorem wpAnyH_states (C : Nat → Array Bool → Bool) (J : Array Bool → Act → World → Prop) (fuel : Nat) (last : List (Array Bool))
    (hJ : ∀ (l : Array Bool) (a : Act) (w : World) (j : Nat), C j l = true → J l a w → wpOp P ops Q j (fun a' w' => S w' ∧ J (l.setIfInBounds j true) a' w') a w)
    (hF : ∀ l ∈ last, ∀ (a : Act) (w : World), J l a w → wpAnyH P md ops Q S fuel l a w) :
    ∀ (r : List (List (Array Bool))) (E : List (Array Bool)), levelsB md ops C (E :: r ++ [last]) = true → ∀ l ∈ E, ∀ (a : Act) (w : World), J l a w → wpAnyH P md ops Q S (fuel + (r.length + 1)) l a w
  | [], E, hB, l, hl, a, w, h => by
    have hB' : ((E.all fun l => !(Region.ready md ops l).isEmpty && (Region.ready md ops l).all fun j => C j l && last.contains (l.setIfInBounds j true)) && true) = true := hB
    rw [Bool.and_true, List.all_eq_true] at hB'
    have hl' := hB' l hl
    rw [Bool.and_eq_true, List.all_eq_true] at hl'
    refine wpAnyH_all (fuel := fuel) rfl (by intro h0; simp [h0] at hl') (fun j hj => ?_)
    have hj' := hl'.2 j hj
    rw [Bool.and_eq_true] at hj'
    exact wpOp_mono (fun a' w' h' => ⟨h'.1, hF _ (by simpa using hj'.2) a' w' h'.2⟩) (hJ l a w j hj'.1 h)
  | E' :: r, E, hB, l, hl, a, w, h => by
    have hB' : ((E.all fun l => !(Region.ready md ops l).isEmpty && (Region.ready md ops l).all fun j => C j l && E'.contains (l.setIfInBounds j true)) && levelsB md ops C (E' :: r ++ [last])) = true := by
      cases r <;> exact hB
    rw [Bool.and_eq_true, List.all_eq_true] at hB'
    have hl' := hB'.1 l hl
    rw [Bool.and_eq_true, List.all_eq_true] at hl'
    refine wpAnyH_all (fuel := fuel + (r.length + 1)) rfl (by intro h0; simp [h0] at hl') (fun j hj => ?_)
    have hj' := hl'.2 j hj
    rw [Bool.and_eq_true] at hj'
    exact wpOp_mono (fun a' w' h' => ⟨h'.1, wpAnyH_states C J fuel last hJ hF r E' hB'.2 _ (by simpa using hj'.2) a' w' h'.2⟩) (hJ l a w j hj'.1 h)
/-- What is listed behind some operations. -/
def listedAfter : List (Nat × Bool) → Array Bool → Array Bool
  | [], l => l
  | (i, _) :: r, l => listedAfter r (l.setIfInBounds i true)
/-- As wpOrs, with a goal of its own at the end: a stretch of the region in one named order. -/
def wpOrsN (P : Program) (ops : Array Oper) (S : World → Prop) (Q : Exit → Act → World → Prop) (R : Act → World → Prop) : List (Nat × Bool) → Act → World → Prop
  | [], a, w => R a w
  | (i, true) :: r, a, w => ∃ o v, ops[i]? = some o ∧ YieldsIf P ops S o v a ∧ wpOrsN P ops S Q R r (a.put o.dst v) w
  | (i, false) :: r, a, w => wpOp P ops Q i (fun a' w' => S w' ∧ wpOrsN P ops S Q R r a' w') a w
def orsNB (md : Region.Mode) (ops : Array Oper) : List (Nat × Bool) → Array Bool → Bool
  | [], _ => true
  | (i, true) :: r, listed => Region.free md ops listed i && ((Region.ready md ops listed).contains i && orsNB md ops r (listed.setIfInBounds i true))
  | (i, false) :: r, listed => decide (Region.ready md ops listed = [i]) && orsNB md ops r (listed.setIfInBounds i true)
theorem wpAnyH_of_orsN (hs : Region.noSelect ops = true) (hQ : ∀ c a d v w, Q (.panic c) (a.put d v) w → Q (.panic c) a w) (R : Act → World → Prop) (fuel : Nat) :
    ∀ (l : List (Nat × Bool)) (listed : Array Bool) (a : Act) (w : World), orsNB md ops l listed = true → S w → wpOrsN P ops S Q R l a w →
      (∀ a w, S w → R a w → wpAnyH P md ops Q S fuel (listedAfter l listed) a w) → wpAnyH P md ops Q S (fuel + l.length) listed a w
  | [], listed, a, w, _, hS, h, hR => hR a w hS h
  | (i, true) :: r, listed, a, w, hB, hS, h, hR => by
    obtain ⟨o, v, ho, hy, hr⟩ := h
    simp only [orsNB, Bool.and_eq_true] at hB
    exact wpAnyH_take ho hs hB.1 hB.2.1 (fun c a w => hQ c a _ v w) hy hS (wpAnyH_of_orsN hs hQ R fuel r _ _ _ hB.2.2 hS hr hR)
  | (i, false) :: r, listed, a, w, hB, hS, h, hR => by
    simp only [orsNB, Bool.and_eq_true, decide_eq_true_eq] at hB
    refine wpAnyH_all (fuel := fuel + r.length) hB.1 (by simp) (fun j hj => ?_)
    have hj : j = i := by simpa using hj
    subst hj
    exact wpOp_mono (fun a' w' h' => ⟨h'.1, wpAnyH_of_orsN hs hQ R fuel r _ _ _ hB.2 h'.1 h'.2 hR⟩) h
/-- The same with the operations themselves in their places. -/
def wpOrsK (P : Program) (ops : Array Oper) (S : World → Prop) (Q : Exit → Act → World → Prop) (R : Act → World → Prop) : List (Oper × Bool) → Act → World → Prop
  | [], a, w => R a w
  | (o, true) :: r, a, w => ∃ v, YieldsIf P ops S o v a ∧ wpOrsK P ops S Q R r (a.put o.dst v) w
  | (o, false) :: r, a, w => if Region.wanted o (yielded ops a.tmps) then o.wp P a w (fun a' w' => S w' ∧ wpOrsK P ops S Q R r a' w') Q ∨ (o.asks P a w ∧ LetsOut Q) else (S w ∧ wpOrsK P ops S Q R r (a.put o.dst undef) w)
theorem wpOrsN_of_K (R : Act → World → Prop) : ∀ (l : List (Nat × Bool)) (a : Act) (w : World), (l.all fun x => decide (x.1 < ops.size)) = true →
    wpOrsK P ops S Q R (pickOrs ops.toList l) a w → wpOrsN P ops S Q R l a w
  | [], _, _, _, h => h
  | (i, b) :: r, a, w, hl, h => by
    simp only [List.all_cons, Bool.and_eq_true, decide_eq_true_eq] at hl
    have ho : ops.toList[i]? = some ops[i] := by simp [hl.1]
    have ho' : ops[i]? = some ops[i] := by simp [hl.1]
    rw [pickOrs, ho] at h
    cases b with
    | true =>
      obtain ⟨v, hy, hr⟩ := h
      exact ⟨_, v, ho', hy, wpOrsN_of_K R r _ _ hl.2 hr⟩
    | false =>
      show wpOp P ops Q i (fun a' w' => S w' ∧ wpOrsN P ops S Q R r a' w') a w
      have h2 : wpOp P ops Q i (fun a' w' => S w' ∧ wpOrsK P ops S Q R (pickOrs ops.toList r) a' w') a w := by unfold wpOp; rw [ho']; exact h
      exact wpOp_mono (fun a' w' h' => ⟨h'.1, wpOrsN_of_K R r _ _ hl.2 h'.2⟩) h2
theorem orsK_pure {R : Act → World → Prop} {o : Oper} {r : List (Oper × Bool)} {a : Act} {w : World} {v : Value} (hw : Region.wanted o (yielded ops a.tmps) = true)
    (hy : ∀ w', S w' → (execOp a.eval o).run P w' = .ok (.value v) w') (h : wpOrsK P ops S Q R r (a.put o.dst v) w) : wpOrsK P ops S Q R ((o, true) :: r) a w :=
  ⟨v, .inl ⟨hw, hy⟩, h⟩
theorem orsK_step {R : Act → World → Prop} {o : Oper} {r : List (Oper × Bool)} {a : Act} {w : World} (hw : Region.wanted o (yielded ops a.tmps) = true)
    (h : ∀ K : Act → World → Prop, (∀ a w, S w ∧ wpOrsK P ops S Q R r a w → K a w) → o.wp P a w K Q) : wpOrsK P ops S Q R ((o, false) :: r) a w := by
  have := h _ (fun _ _ h => h)
  show if _ then _ else _
  rw [if_pos hw]
  exact .inl this
theorem orsK_nil {R : Act → World → Prop} {a : Act} {w : World} (h : R a w) : wpOrsK P ops S Q R [] a w := h
/-- The beginning: a stretch in one order, then whatever is shown of what is left (by states, or by a further stretch). The region is shown not to panic. -/
theorem wp_region_orsK {lo : List Oper} (S : World → Prop) (R : Act → World → Prop) {id : Nat} {a : Act} {w : World} (l : List (Nat × Bool)) (fuel : Nat) (hm : P.follows .mixedOrders = true) (hs : Region.noSelect lo.toArray = true)
    (hB : (decide (fuel + l.length = lo.toArray.size) && (orsNB .any lo.toArray l (Array.replicate lo.toArray.size false) && l.all fun x => decide (x.1 < lo.toArray.size))) = true)
    (hS : S w.drew) (h : wpOrsK P lo.toArray S (NoPanic Q) R (pickOrs lo l) a w.drew)
    (hR : ∀ a w, S w → R a w → wpAnyH P .any lo.toArray (NoPanic Q) S fuel (listedAfter l (Array.replicate lo.toArray.size false)) a w) : (Code.region id lo.toArray true).wp P Q a w := by
  simp only [Bool.and_eq_true, decide_eq_true_eq] at hB
  refine wp_region_noPanic (wp_region_held_drew hm hS fun hS => ?_)
  have h2 := wpAnyH_of_orsN hs (fun _ _ _ _ _ h => h) R fuel l _ _ _ hB.2.1 hS (wpOrsN_of_K R _ _ _ hB.2.2 h) hR
  rw [hB.1] at h2
  exact h2
/-- A further stretch, from what is listed already. -/
theorem wpAnyH_orsK {lo : List Oper} (R : Act → World → Prop) {a : Act} {w : World} {listed : Array Bool} (l : List (Nat × Bool)) (fuel : Nat) (hs : Region.noSelect lo.toArray = true)
    (hB : (orsNB .any lo.toArray l listed && l.all fun x => decide (x.1 < lo.toArray.size)) = true)
    (hS : S w) (h : wpOrsK P lo.toArray S (NoPanic Q) R (pickOrs lo l) a w)
    (hR : ∀ a w, S w → R a w → wpAnyH P .any lo.toArray (NoPanic Q) S fuel (listedAfter l listed) a w) : wpAnyH P .any lo.toArray (NoPanic Q) S (fuel + l.length) listed a w := by
  simp only [Bool.and_eq_true] at hB
  exact wpAnyH_of_orsN hs (fun _ _ _ _ _ h => h) R fuel l _ _ _ hB.1 hS (wpOrsN_of_K R _ _ _ hB.2 h) hR
end
end Go.Proofs.YthpledfjopbchaaDoor
/- A stretch of a drawn region whose operations may come up in several orders, by state: what each operation leaves in its slot, stable while the world grows, and one proof an operation. No condition. -/
namespace Go.Proofs.YthpledfjopbchaaDoor
def updF (f : Nat → Value) (i : Nat) (v : Value) : Nat → Value := fun k => if k = i then v else f k
/-- The slots written, each by its operation. -/
def putAll : Act → List (Nat × Nat) → (Nat → Value) → Act
  | a, [], _ => a
  | a, (s, i) :: r, f => putAll (a.put (some s) (f i)) r f
def slotsB : List (Nat × Nat) → Bool
  | [] => true
  | (s, i) :: r => r.all (fun x => decide (x.1 ≠ s) && decide (x.2 ≠ i)) && slotsB r
theorem put_comm (a : Act) (i j : Nat) (u v : Value) (h : i ≠ j) : (a.put (some i) u).put (some j) v = (a.put (some j) v).put (some i) u := by
  show ({ a with tmps := (a.tmps.setIfInBounds i u).setIfInBounds j v } : Act) = { a with tmps := (a.tmps.setIfInBounds j v).setIfInBounds i u }
  rw [Array.setIfInBounds_comm _ _ h]
theorem put_put (a : Act) (i : Nat) (u v : Value) : (a.put (some i) u).put (some i) v = a.put (some i) v := by
  show ({ a with tmps := (a.tmps.setIfInBounds i u).setIfInBounds i v } : Act) = { a with tmps := a.tmps.setIfInBounds i v }
  rw [Array.setIfInBounds_setIfInBounds]
theorem put_self (a : Act) (i : Nat) : a.put (some i) (a.tmps.getD i undef) = a := by
  have h : a.tmps.setIfInBounds i (a.tmps.getD i undef) = a.tmps := by
    apply Array.ext_getElem?
    intro k
    rw [Array.getElem?_setIfInBounds]
    split
    · rename_i hk
      subst hk
      split
      · rename_i hs; rw [Array.getElem?_eq_getElem hs]; simp
      · rename_i hs; rw [Array.getElem?_eq_none (by omega)]
    · rfl
  show ({ a with tmps := a.tmps.setIfInBounds i (a.tmps.getD i undef) } : Act) = a
  rw [h]
theorem putAll_put (f : Nat → Value) (s : Nat) (v : Value) : ∀ (r : List (Nat × Nat)) (a : Act), (∀ x ∈ r, x.1 ≠ s) → (putAll a r f).put (some s) v = putAll (a.put (some s) v) r f
  | [], _, _ => rfl
  | (s0, i0) :: r, a, h => by
    rw [putAll, putAll, putAll_put f s v r _ (fun x hx => h x (List.mem_cons_of_mem _ hx)), put_comm a s0 s _ _ (h _ List.mem_cons_self)]
theorem putAll_other (f : Nat → Value) (i : Nat) (v : Value) : ∀ (r : List (Nat × Nat)) (a : Act), (∀ x ∈ r, x.2 ≠ i) → putAll a r (updF f i v) = putAll a r f
  | [], _, _ => rfl
  | (s0, i0) :: r, a, h => by
    rw [putAll, putAll, putAll_other f i v r _ (fun x hx => h x (List.mem_cons_of_mem _ hx))]
    have : updF f i v i0 = f i0 := by unfold updF; rw [if_neg (h _ List.mem_cons_self)]
    rw [this]
theorem putAll_upd (f : Nat → Value) (s i : Nat) (v : Value) : ∀ (r : List (Nat × Nat)) (a : Act), slotsB r = true → (s, i) ∈ r → (putAll a r f).put (some s) v = putAll a r (updF f i v)
  | [], _, _, h => absurd h (by simp)
  | (s0, i0) :: r, a, hB, h => by
    simp only [slotsB, Bool.and_eq_true, List.all_eq_true, decide_eq_true_eq] at hB
    rcases List.mem_cons.1 h with h1 | h1
    · injection h1 with h2 h3
      subst h2 h3
      rw [putAll, putAll, putAll_put f s v r _ (fun x hx => (hB.1 x hx).1), put_put, putAll_other f i v r _ (fun x hx => (hB.1 x hx).2)]
      have : updF f i v i = v := by unfold updF; rw [if_pos rfl]
      rw [this]
    · have hne := (hB.1 _ h1).2
      have : updF f i v i0 = f i0 := by unfold updF; rw [if_neg (fun e => hne e.symm)]
      rw [putAll, putAll, putAll_upd f s i v r _ hB.2 h1, this]
theorem putAll_start : ∀ (r : List (Nat × Nat)) (a : Act), slotsB r = true → ∃ f, putAll a r f = a
  | [], _, _ => ⟨fun _ => undef, rfl⟩
  | (s, i) :: r, a, hB => by
    simp only [slotsB, Bool.and_eq_true, List.all_eq_true, decide_eq_true_eq] at hB
    obtain ⟨f, hf⟩ := putAll_start r a hB.2
    refine ⟨updF f i (a.tmps.getD s undef), ?_⟩
    have : updF f i (a.tmps.getD s undef) i = a.tmps.getD s undef := by unfold updF; rw [if_pos rfl]
    rw [putAll, this, put_self, putAll_other f i _ r _ (fun x hx => (hB.1 x hx).2), hf]
section
variable {P : Program} {lo : List Oper} {Q : Exit → Act → World → Prop} {S : World → Prop}
theorem wpOp_step {i : Nat} {a : Act} {w : World} {o : Oper} {K : Act → World → Prop} (ho : lo[i]? = some o) (hw : Region.wanted o (yielded lo.toArray a.tmps) = true)
    (h : ∀ K' : Act → World → Prop, (∀ a w, K a w → K' a w) → o.wp P a w K' Q) : wpOp P lo.toArray Q i K a w := by
  have hx := h _ (fun _ _ h => h)
  unfold wpOp
  rw [show lo.toArray[i]? = some o by simpa using ho]
  show if _ then _ else _
  rw [if_pos hw]
  exact .inl hx
theorem phi_step {Phi : Nat → Value → World → Prop} {E : World → World → Prop} (hE : ∀ i v w w', Phi i v w → E w w' → Phi i v w') {l : Array Bool} {f : Nat → Value} {w w' : World}
    (hf : ∀ i, l.getD i false = true → Phi i (f i) w) (he : E w w') (j : Nat) (v : Value) (hv : Phi j v w') : ∀ i, (l.setIfInBounds j true).getD i false = true → Phi i (updF f j v i) w' := by
  intro i hi
  unfold updF
  by_cases hij : i = j
  · subst hij; rw [if_pos rfl]; exact hv
  · rw [if_neg hij]
    refine hE _ _ _ _ (hf i ?_) he
    rw [Array.getD_eq_getD_getElem?, Array.getElem?_setIfInBounds_ne (Ne.symm hij)] at hi
    rwa [Array.getD_eq_getD_getElem?]
/-- One operation of the stretch: what it must leave. -/
def OpGoes (P : Program) (lo : List Oper) (Q : Exit → Act → World → Prop) (S : World → Prop) (Phi : Nat → Value → World → Prop) (E : World → World → Prop) (slots : List (Nat × Nat)) (a0 : Act) (f : Nat → Value) (w : World) (j : Nat) : Prop :=
  ∃ o s, lo[j]? = some o ∧ o.dst = some s ∧ (s, j) ∈ slots ∧ Region.wanted o (yielded lo.toArray (putAll a0 slots f).tmps) = true ∧
    ∀ K : Act → World → Prop, (∀ v w', S w' → E w w' → Phi j v w' → K ((putAll a0 slots f).put (some s) v) w') → o.wp P (putAll a0 slots f) w K Q
def listN (l0 : Array Bool) (d : List Nat) : Array Bool := d.foldl (fun l i => l.setIfInBounds i true) l0
theorem wpAnyH_group (slots : List (Nat × Nat)) (C : Nat → Array Bool → Bool) (Phi : Nat → Value → World → Prop) (E : World → World → Prop) (l0 : Array Bool) (fuel : Nat) (levs : List (List (List Nat))) (done : List Nat) {a0 : Act} {w : World}
    (hE : ∀ i v w w', Phi i v w → E w w' → Phi i v w') (hB : slotsB slots = true) (h0 : ∀ i v w, (slots.all fun x => decide (x.2 ≠ i)) = true → Phi i v w)
    (hl : (slots.all fun x => !l0.getD x.2 false) = true) (hS : S w)
    (hlev : levelsB .any lo.toArray C ([l0] :: (levs.map fun L => L.map (listN l0)) ++ [[listN l0 done]]) = true)
    (hop : ∀ (l : Array Bool) (f : Nat → Value) (w : World) (j : Nat), C j l = true → S w → (∀ i, l.getD i false = true → Phi i (f i) w) → OpGoes P lo Q S Phi E slots a0 f w j)
    (hend : ∀ (f : Nat → Value) (w : World), S w → (∀ i, (listN l0 done).getD i false = true → Phi i (f i) w) → wpAnyH P .any lo.toArray Q S fuel (listN l0 done) (putAll a0 slots f) w) :
    wpAnyH P .any lo.toArray Q S (fuel + (levs.length + 1)) l0 a0 w := by
  obtain ⟨f0, hf0⟩ := putAll_start slots a0 hB
  have hx := wpAnyH_states (P := P) (md := .any) (ops := lo.toArray) (Q := Q) (S := S) C (fun l a w => ∃ f, a = putAll a0 slots f ∧ S w ∧ ∀ i, l.getD i false = true → Phi i (f i) w) fuel [listN l0 done]
    (fun l a w j hC hJ => by
      obtain ⟨f, rfl, hSw, hf⟩ := hJ
      obtain ⟨o, s, ho, hd, hm, hw, hgo⟩ := hop l f w j hC hSw hf
      refine wpOp_step ho hw (fun K' hK' => hgo K' (fun v w' hS' he hv => hK' _ _ ⟨hS', updF f j v, putAll_upd f s j v slots a0 hB hm, hS', phi_step hE hf he j v hv⟩)))
    (fun l hl a w hJ => by
      obtain rfl : l = listN l0 done := by simpa using hl
      obtain ⟨f, rfl, hSw, hf⟩ := hJ
      exact hend f w hSw hf)
    (levs.map fun L => L.map (listN l0)) [l0] hlev l0 (by simp) a0 w
    ⟨f0, hf0.symm, hS, fun i hi => h0 i _ _ (by
      rw [List.all_eq_true] at hl ⊢
      intro x hx
      have := hl x hx
      rw [decide_eq_true_eq]
      intro e
      rw [e, hi] at this
      cases this)⟩
  rw [List.length_map] at hx
  exact hx
end
end Go.Proofs.YthpledfjopbchaaDoor
/- A drawn region walked by what its operations wait for: each operation leaves a fact about its own value that lasts while memory grows; whatever order is drawn, an operation finds the facts of all that it waits for. No order and no state is listed: one proof an operation. No condition. -/
namespace Go.Proofs.YthpledfjopbchaaDoor
open Go.RowKit
/-- What an operation waits for stands ahead of it. -/
def aheadB (md : Region.Mode) (ops : Array Oper) : Bool :=
  (List.range ops.size).all fun i => ((ops[i]?).map fun o => o.after.all fun e => !Region.binds md e || decide (e.on < i)).getD true
/-- It does wait for these. -/
def needB (md : Region.Mode) (ops : Array Oper) (D : Nat → List Nat) : Bool :=
  (List.range ops.size).all fun i => ((ops[i]?).map fun o => (D i).all fun j => o.after.any fun e => Region.binds md e && e.on == j).getD true
theorem ready_iff {md : Region.Mode} {ops : Array Oper} {listed : Array Bool} {i : Nat} : i ∈ Region.ready md ops listed ↔ i < ops.size ∧ listed.getD i true = false ∧ ∀ o, ops[i]? = some o → ∀ e ∈ o.after, Region.binds md e = true → listed.getD e.on false = true := by
  unfold Region.ready
  rw [List.mem_filter, List.mem_range]
  constructor
  · rintro ⟨hi, h⟩
    rw [Bool.and_eq_true] at h
    refine ⟨hi, by simpa using h.1, fun o ho e he hb => ?_⟩
    have h2 := h.2
    rw [ho] at h2
    simp only [Option.map_some, Option.getD_some, Array.all_eq_true_iff_forall_mem] at h2
    have := h2 e he
    rw [hb] at this
    simpa using this
  · rintro ⟨hi, h1, h2⟩
    refine ⟨hi, ?_⟩
    rw [Bool.and_eq_true]
    refine ⟨by rw [h1]; rfl, ?_⟩
    have ho : ops[i]? = some ops[i] := Array.getElem?_eq_getElem hi
    rw [ho]
    simp only [Option.map_some, Option.getD_some, Array.all_eq_true_iff_forall_mem]
    intro e he
    cases hb : Region.binds md e with
    | false => rfl
    | true => simpa using h2 _ ho e he hb
/-- Where nothing may come up any more, all has come up. -/
theorem all_listed {md : Region.Mode} {ops : Array Oper} {listed : Array Bool} (hA : aheadB md ops = true) (hs : listed.size = ops.size) (hr : Region.ready md ops listed = []) : ∀ n i, i < n → i < ops.size → listed.getD i true = true
  | 0, i, h, _ => absurd h (by omega)
  | n + 1, i, h, hi => by
    cases hl : listed.getD i true with
    | true => rfl
    | false =>
      have hm : i ∈ Region.ready md ops listed := ready_iff.2 ⟨hi, hl, fun o ho e he hb => by
        unfold aheadB at hA
        rw [List.all_eq_true] at hA
        have h1 := hA i (List.mem_range.2 hi)
        rw [ho] at h1
        simp only [Option.map_some, Option.getD_some, Array.all_eq_true_iff_forall_mem] at h1
        have h2 := h1 e he
        rw [hb] at h2
        have h3 : e.on < i := by simpa using h2
        have h4 := all_listed (by unfold aheadB; rw [List.all_eq_true]; exact hA) hs hr n e.on (by omega) (by omega)
        rw [Array.getD_eq_getD_getElem?, Array.getElem?_eq_getElem (by omega)] at h4 ⊢
        exact h4⟩
      rw [hr] at hm
      cases hm
/-- The slots that the operations write, each with its operation. -/
def slotsOf (q : Array Oper) : List (Nat × Nat) := (List.range q.size).filterMap fun i => (q[i]?.bind fun o => o.dst).map fun s => (s, i)
section
variable {P : Program} {lo : List Oper} {Q : Exit → Act → World → Prop} {S : World → Prop}
/-- One operation: what it leaves. -/
def FlowOp (P : Program) (lo : List Oper) (Q : Exit → Act → World → Prop) (S : World → Prop) (Phi : Nat → Value → World → Prop) (E : World → World → Prop) (A : Act) (w : World) (j : Nat) : Prop :=
  ∃ o, lo[j]? = some o ∧ Region.wanted o (yielded lo.toArray A.tmps) = true ∧
    ∀ K : Act → World → Prop, (∀ v w', S w' → E w w' → Phi j v w' → K (A.put o.dst v) w') → o.wp P A w K Q
theorem put_flow {slots : List (Nat × Nat)} (hB : slotsB slots = true) (hSl : slotsOf lo.toArray = slots) {o : Oper} {j : Nat} (ho : lo[j]? = some o) (a0 : Act) (f : Nat → Value) (v : Value) :
    (putAll a0 slots f).put o.dst v = putAll a0 slots (updF f j v) := by
  have hj : j < lo.length := by
    rcases Nat.lt_or_ge j lo.length with h | h
    · exact h
    · rw [List.getElem?_eq_none h] at ho; cases ho
  have ho' : lo.toArray[j]? = some o := by simpa using ho
  cases hd : o.dst with
  | none =>
    rw [putAll_other f j v slots a0 (fun x hx hxj => by
      rw [← hSl] at hx
      unfold slotsOf at hx
      rw [List.mem_filterMap] at hx
      obtain ⟨i, hi, hxi⟩ := hx
      cases hq : (lo.toArray[i]?.bind fun o => o.dst) with
      | none => rw [hq] at hxi; cases hxi
      | some s =>
        rw [hq] at hxi
        injection hxi with hxi
        subst hxi
        obtain rfl : i = j := hxj
        rw [ho'] at hq
        rw [show (some o).bind (fun o : Oper => o.dst) = o.dst from rfl, hd] at hq
        cases hq)]
    rfl
  | some s =>
    refine putAll_upd f s j v slots a0 hB ?_
    rw [← hSl]
    unfold slotsOf
    rw [List.mem_filterMap]
    refine ⟨j, List.mem_range.2 (by simpa using hj), ?_⟩
    rw [ho', show (some o).bind (fun o : Oper => o.dst) = o.dst from rfl, hd]
    rfl
theorem wpAnyH_flow (slots : List (Nat × Nat)) (D : Nat → List Nat) (Phi : Nat → Value → World → Prop) (E : World → World → Prop) (a0 : Act)
    (hE : ∀ i v w w', Phi i v w → E w w' → Phi i v w') (hB : slotsB slots = true) (hSl : slotsOf lo.toArray = slots) (hA : aheadB .any lo.toArray = true) (hN : needB .any lo.toArray D = true)
    (hop : ∀ (f : Nat → Value) (w : World) (j : Nat), j < lo.length → S w → (∀ d ∈ D j, Phi d (f d) w) → FlowOp P lo Q S Phi E (putAll a0 slots f) w j)
    (hend : ∀ (f : Nat → Value) (w : World), S w → (∀ i, i < lo.length → Phi i (f i) w) → Q .normal (putAll a0 slots f) w) :
    ∀ (fuel : Nat) (l : Array Bool) (f : Nat → Value) (w : World), l.size = lo.toArray.size → l.count false ≤ fuel → S w → (∀ i, l.getD i false = true → Phi i (f i) w) →
      wpAnyH P .any lo.toArray Q S fuel l (putAll a0 slots f) w := by
  have fin : ∀ (l : Array Bool) (f : Nat → Value) (w : World), l.size = lo.toArray.size → S w → (∀ i, l.getD i false = true → Phi i (f i) w) → Region.ready .any lo.toArray l = [] → Q .normal (putAll a0 slots f) w := by
    intro l f w hs hS hf hr
    refine hend f w hS fun i hi => hf i ?_
    have hi' : i < lo.toArray.size := by simpa using hi
    have h := all_listed hA hs hr (i + 1) i (by omega) hi'
    rw [Array.getD_eq_getD_getElem?, Array.getElem?_eq_getElem (by omega)] at h ⊢
    exact h
  have getI : ∀ (l : Array Bool) (i : Nat), l.getD i true = false → ∃ h : i < l.size, l[i] = false := by
    intro l i h
    rw [Array.getD_eq_getD_getElem?] at h
    rcases Nat.lt_or_ge i l.size with h' | h'
    · rw [Array.getElem?_eq_getElem h'] at h
      exact ⟨h', h⟩
    · rw [Array.getElem?_eq_none h'] at h
      cases h
  intro fuel
  induction fuel with
  | zero =>
    intro l f w hs hc hS hf
    have hr : Region.ready .any lo.toArray l = [] := by
      refine List.eq_nil_iff_forall_not_mem.2 fun i hi => ?_
      obtain ⟨_, h1, _⟩ := ready_iff.1 hi
      obtain ⟨hl, he⟩ := getI l i h1
      have : 0 < l.count false := Array.count_pos_iff.2 (by rw [← he]; exact Array.getElem_mem hl)
      omega
    exact ⟨hr, fin l f w hs hS hf hr⟩
  | succ fuel ih =>
    intro l f w hs hc hS hf
    refine ⟨fin l f w hs hS hf, fun j hj => ?_⟩
    obtain ⟨hjs, h1, hall⟩ := ready_iff.1 hj
    have hjl : j < lo.length := by simpa using hjs
    have hD : ∀ d ∈ D j, Phi d (f d) w := by
      intro d hd
      refine hf d ?_
      have hN1 := hN
      unfold needB at hN1
      rw [List.all_eq_true] at hN1
      have h2 := hN1 j (List.mem_range.2 hjs)
      have ho : lo.toArray[j]? = some lo.toArray[j] := Array.getElem?_eq_getElem hjs
      rw [ho, Option.map_some, Option.getD_some, List.all_eq_true] at h2
      have h3 := h2 d hd
      rw [Array.any_eq_true'] at h3
      obtain ⟨e, he, hb⟩ := h3
      rw [Bool.and_eq_true] at hb
      have h4 := hall _ ho e he hb.1
      have h5 : e.on = d := by simpa using hb.2
      rwa [h5] at h4
    obtain ⟨o, ho, hw, hgo⟩ := hop f w j hjl hS hD
    obtain ⟨hl, he⟩ := getI l j h1
    refine wpOp_step ho hw fun K' hK' => hgo K' fun v w' hS' hEw hv => hK' _ _ ⟨hS', ?_⟩
    rw [put_flow hB hSl ho]
    refine ih _ _ _ (by rw [Array.size_setIfInBounds]; exact hs) ?_ hS' (phi_step hE hf hEw j v hv)
    have hcnt : (l.setIfInBounds j true).count false = l.count false - 1 := by
      rw [Array.setIfInBounds_def, dif_pos hl, Array.count_set hl, he]
      rfl
    omega
/-- The same with one operation that waits for all others: it comes last, and may change what they left. -/
theorem wpAnyH_flowL (slots : List (Nat × Nat)) (D : Nat → List Nat) (Phi : Nat → Value → World → Prop) (E : World → World → Prop) (a0 : Act) (n : Nat) (hn : lo.length = n + 1) (hDn : ∀ i, i < n → i ∈ D n)
    (hE : ∀ i v w w', Phi i v w → E w w' → Phi i v w') (hB : slotsB slots = true) (hSl : slotsOf lo.toArray = slots) (hA : aheadB .any lo.toArray = true) (hN : needB .any lo.toArray D = true)
    (hop : ∀ (j : Nat), j < n → ∀ (f : Nat → Value) (w : World), S w → (∀ d ∈ D j, Phi d (f d) w) → FlowOp P lo Q S Phi E (putAll a0 slots f) w j)
    (hend : ∀ (f : Nat → Value) (w : World), S w → (∀ i, i < n → Phi i (f i) w) → wpOp P lo.toArray Q n (fun a' w' => S w' ∧ Q .normal a' w') (putAll a0 slots f) w) :
    ∀ (fuel : Nat) (l : Array Bool) (f : Nat → Value) (w : World), l.size = lo.toArray.size → l.getD n true = false → l.count false ≤ fuel → S w → (∀ i, l.getD i false = true → Phi i (f i) w) →
      wpAnyH P .any lo.toArray Q S fuel l (putAll a0 slots f) w := by
  have getI : ∀ (l : Array Bool) (i : Nat), l.getD i true = false → ∃ h : i < l.size, l[i] = false := by
    intro l i h
    rw [Array.getD_eq_getD_getElem?] at h
    rcases Nat.lt_or_ge i l.size with h' | h'
    · rw [Array.getElem?_eq_getElem h'] at h
      exact ⟨h', h⟩
    · rw [Array.getElem?_eq_none h'] at h
      cases h
  have fin : ∀ (l : Array Bool), l.size = lo.toArray.size → l.getD n true = false → Region.ready .any lo.toArray l ≠ [] := by
    intro l hs hln hr
    have h := all_listed hA hs hr (n + 1) n (by omega) (by simp; omega)
    rw [h] at hln
    cases hln
  intro fuel
  induction fuel with
  | zero =>
    intro l f w hs hln hc hS hf
    obtain ⟨hl, he⟩ := getI l n hln
    have : 0 < l.count false := Array.count_pos_iff.2 (by rw [← he]; exact Array.getElem_mem hl)
    omega
  | succ fuel ih =>
    intro l f w hs hln hc hS hf
    refine ⟨fun hr => absurd hr (fin l hs hln), fun j hj => ?_⟩
    obtain ⟨hjs, h1, hall⟩ := ready_iff.1 hj
    have hjl : j < lo.length := by simpa using hjs
    have hDl : ∀ d ∈ D j, l.getD d false = true := by
      intro d hd
      have hN1 := hN
      unfold needB at hN1
      rw [List.all_eq_true] at hN1
      have h2 := hN1 j (List.mem_range.2 hjs)
      have ho : lo.toArray[j]? = some lo.toArray[j] := Array.getElem?_eq_getElem hjs
      rw [ho, Option.map_some, Option.getD_some, List.all_eq_true] at h2
      have h3 := h2 d hd
      rw [Array.any_eq_true'] at h3
      obtain ⟨e, he, hb⟩ := h3
      rw [Bool.and_eq_true] at hb
      have h4 := hall _ ho e he hb.1
      have h5 : e.on = d := by simpa using hb.2
      rwa [h5] at h4
    by_cases hjn : j = n
    · subst hjn
      refine wpOp_mono (fun a' w' h' => ⟨h'.1, wpAnyH_done ?_ h'.2 fuel⟩) (hend f w hS fun i hi => hf i (hDl i (hDn i hi)))
      refine List.eq_nil_iff_forall_not_mem.2 fun i hi => ?_
      obtain ⟨his, hi1, _⟩ := ready_iff.1 hi
      have his' : i < j + 1 := by rw [← hn]; simpa using his
      obtain ⟨hl', he'⟩ := getI _ i hi1
      by_cases hij : i = j
      · subst hij
        simp at he'
      · have h6 := hDl i (hDn i (by omega))
        have hil : i < l.size := by simpa using hl'
        rw [Array.getElem_setIfInBounds (by simpa using hl'), if_neg (Ne.symm hij)] at he'
        rw [Array.getD_eq_getD_getElem?, Array.getElem?_eq_getElem hil] at h6
        rw [Option.getD_some, he'] at h6
        cases h6
    · obtain ⟨o, ho, hw, hgo⟩ := hop j (by omega) f w hS (fun d hd => hf d (hDl d hd))
      obtain ⟨hl, he⟩ := getI l j h1
      refine wpOp_step ho hw fun K' hK' => hgo K' fun v w' hS' hEw hv => hK' _ _ ⟨hS', ?_⟩
      rw [put_flow hB hSl ho]
      refine ih _ _ _ (by rw [Array.size_setIfInBounds]; exact hs) ?_ ?_ hS' (phi_step hE hf hEw j v hv)
      · rw [Array.getD_eq_getD_getElem?, Array.getElem?_setIfInBounds_ne hjn, ← Array.getD_eq_getD_getElem?]
        exact hln
      · have hcnt : (l.setIfInBounds j true).count false = l.count false - 1 := by
          rw [Array.setIfInBounds_def, dif_pos hl, Array.count_set hl, he]
          rfl
        omega
theorem lt_0 {p : Nat → Prop} : ∀ j, j < 0 → p j := fun _ h => absurd h (by omega)
theorem lt_s {p : Nat → Prop} {n : Nat} (h : ∀ j, j < n → p j) (h' : p n) : ∀ j, j < n + 1 → p j := fun j hj => by
  rcases Nat.lt_or_ge j n with h1 | h1
  · exact h j h1
  · obtain rfl : j = n := by omega
    exact h'
/-- The checks of a flow, for a theorem of its own. -/
def flowB (slots : List (Nat × Nat)) (D : Nat → List Nat) (q : Array Oper) : Bool :=
  slotsB slots && (decide (slotsOf q = slots) && (aheadB .any q && needB .any q D))
theorem wp_region_flow {id : Nat} {a : Act} {w : World} (slots : List (Nat × Nat)) (D : Nat → List Nat) (Phi : Nat → Value → World → Prop) (E : World → World → Prop) (S : World → Prop) (q : Array Oper)
    (hq : flowB slots D q = true) (he : lo.toArray = q) (hm : P.follows .mixedOrders = true) (hS : S w.drew) (hE : ∀ i v w w', Phi i v w → E w w' → Phi i v w')
    (hop : ∀ (j : Nat), j < lo.length → ∀ (f : Nat → Value) (w : World), S w → (∀ d ∈ D j, Phi d (f d) w) → FlowOp P lo (NoPanic Q) S Phi E (putAll a slots f) w j)
    (hend : ∀ (f : Nat → Value) (w : World), S w → (∀ i, i < lo.length → Phi i (f i) w) → Q .normal (putAll a slots f) w) : (Code.region id lo.toArray true).wp P Q a w := by
  subst he
  unfold flowB at hq
  simp only [Bool.and_eq_true, decide_eq_true_eq] at hq
  obtain ⟨hB, hSl, hA, hN⟩ := hq
  obtain ⟨f0, hf0⟩ := putAll_start slots a hB
  refine wp_region_noPanic (wp_region_held_drew (S := S) hm hS fun _ => ?_)
  have h := wpAnyH_flow (Q := NoPanic Q) slots D Phi E a hE hB hSl hA hN (fun f w j hj => hop j hj f w) hend lo.toArray.size (Array.replicate lo.toArray.size false) f0 w.drew (by simp) (by simp) hS (fun i hi => by
    rw [Array.getD_eq_getD_getElem?, Array.getElem?_replicate] at hi
    split at hi <;> cases hi)
  rw [hf0] at h
  exact h
theorem wp_region_flowL {id : Nat} {a : Act} {w : World} (slots : List (Nat × Nat)) (D : Nat → List Nat) (Phi : Nat → Value → World → Prop) (E : World → World → Prop) (S : World → Prop) (q : Array Oper) (n : Nat) (hn : lo.length = n + 1) (hDn : ∀ i, i < n → i ∈ D n)
    (hq : flowB slots D q = true) (he : lo.toArray = q) (hm : P.follows .mixedOrders = true) (hS : S w.drew) (hE : ∀ i v w w', Phi i v w → E w w' → Phi i v w')
    (hop : ∀ (j : Nat), j < n → ∀ (f : Nat → Value) (w : World), S w → (∀ d ∈ D j, Phi d (f d) w) → FlowOp P lo (NoPanic Q) S Phi E (putAll a slots f) w j)
    (hend : ∀ (f : Nat → Value) (w : World), S w → (∀ i, i < n → Phi i (f i) w) → wpOp P lo.toArray (NoPanic Q) n (fun a' w' => S w' ∧ Q .normal a' w') (putAll a slots f) w) : (Code.region id lo.toArray true).wp P Q a w := by
  subst he
  unfold flowB at hq
  simp only [Bool.and_eq_true, decide_eq_true_eq] at hq
  obtain ⟨hB, hSl, hA, hN⟩ := hq
  obtain ⟨f0, hf0⟩ := putAll_start slots a hB
  refine wp_region_noPanic (wp_region_held_drew (S := S) hm hS fun _ => ?_)
  have h := wpAnyH_flowL (Q := NoPanic Q) slots D Phi E a n hn hDn hE hB hSl hA hN hop hend lo.toArray.size (Array.replicate lo.toArray.size false) f0 w.drew (by simp) (by rw [Array.getD_eq_getD_getElem?, Array.getElem?_replicate, if_pos (by simp; omega)]; rfl) (by simp) hS (fun i hi => by
    rw [Array.getD_eq_getD_getElem?, Array.getElem?_replicate] at hi
    split at hi <;> cases hi)
  rw [hf0] at h
  exact h
end
end Go.Proofs.YthpledfjopbchaaDoor
/- For ChunkKnown: rows of several pieces or byte slices as literals, boxes that hold a piece. No condition. -/
namespace Go.Proofs.YthpledfjopbchaaDoor
open Go.RowKit
theorem Has.keepB {w w' : World} {g : Nat} {t : TypeId} {l : List Value} (h : Has w g t l) (hb : Below w.heap.size w w') : Has w' g t l := (hb.block g h.lt).trans h
def aggP (p : Pc) : Value := .agg (encP p).toArray
theorem fill_manyP (L : List Pc) (cells : Array Value) (hc : cells.size = L.length * 33) :
    Instr.fill (fun i => some (i * 33, 33)) cells (((L.map aggP).zipIdx 0).map fun x => (x.2, x.1)) = some (rowP L).toArray := by
  obtain ⟨r, h1, h2, h3⟩ := Great.fill_dense (s := 33) (by decide) (L.map aggP) 0 cells (fun v hv => by
    obtain ⟨x, _, rfl⟩ := List.mem_map.1 hv
    show (encP x).toArray.size = 33
    rw [List.size_toArray, encP_len]) (by rw [List.length_map, hc, Nat.zero_add]; exact Nat.le_refl _)
  rw [h1]
  congr 1
  have hs : r.size = (rowP L).toArray.size := by rw [h2, hc]; simp [rowP_len]
  refine Array.ext hs fun k hk1 hk2 => ?_
  have h4 := h3 k
  have hk : k < L.length * 33 := by rw [h2, hc] at hk1; exact hk1
  have hi : k / 33 < L.length := by omega
  rw [if_pos ⟨by omega, by rw [List.length_map, Nat.zero_add]; exact hk⟩, Nat.sub_zero, List.getElem?_map, List.getElem?_eq_getElem hi, Option.map_some, Option.bind_some] at h4
  have h5 := rowP_get L (k / 33) hi (k % 33) (Nat.mod_lt _ (by decide))
  rw [show k / 33 * 33 + k % 33 = k by omega] at h5
  have h6 : (aggP L[k / 33]).cells[k % 33]? = (encP L[k / 33])[k % 33]? := by simp [aggP, Value.cells]
  rw [h6, ← h5, Array.getElem?_eq_getElem hk1] at h4
  have h7 : (rowP L)[k]? = some ((rowP L).toArray[k]) := by simp
  rw [h7] at h4
  exact Option.some.inj h4
section
variable {ops : Array Oper} {rest : List Oper} {o : Oper} {a : Act} {w : World} {Q : Exit → Act → World → Prop} {K : Act → World → Prop}
/-- A row of some pieces, a literal. -/
theorem wp_lit_pc (T E : TypeId) (hT : ElP T E) (n : Nat) (parts : Array (Nat × Operand)) (ho : o.op = .buildSlice T n parts) (L : List Pc) (hn : L.length = n) (h0 : 0 < n) (h9 : n ≤ 1000)
    (hx : (parts.map fun (i, x) => (i, a.eval x)).toList = ((L.map aggP).zipIdx 0).map fun x => (x.2, x.1))
    (h : K (a.put o.dst (.slice (some ⟨w.heap.size, 0, none⟩) n n)) (w.alloc (.cells (rowP L).toArray E))) : o.wp Tryd.prog a w K Q := by
  subst hn
  obtain ⟨i0, hi, hz0, hz1, hz2⟩ := info_parts hT.2.2
  refine wp_buildSlice T E L.length parts ho (rowP L).toArray i0 _ hT.1 hi hz0 (by rw [hz1]; omega) (by rw [hz1]; omega) ?_ h
  rw [hx, hz1]
  exact fill_manyP L _ (by simp)
/-- A row of two slices of bytes. -/
theorem wp_two_bs (x y : Operand) (ho : o.op = .buildSlice 58 2 #[(0, x), (1, y)]) (u v : Value) (hx : a.eval x = u) (hy : a.eval y = v) (qu : Option Addr) (nu cu : Nat) (hu : u = .slice qu nu cu) (qv : Option Addr) (nv cv : Nat) (hv : v = .slice qv nv cv)
    (h : K (a.put o.dst (.slice (some ⟨w.heap.size, 0, none⟩) 2 2)) (w.alloc (.cells #[u, v] 26))) : o.wp Tryd.prog a w K Q := by
  subst hu hv
  obtain ⟨i0, hi, hz0, hz1, hz2⟩ := info_parts slT_infoP
  refine wp_buildSlice 58 26 2 _ ho #[.slice qu nu cu, .slice qv nv cv] i0 _ Tryd.underlying58 hi hz0 (by rw [hz1]; omega) (by rw [hz1]; omega) ?_ h
  rw [hz1]
  simp only [List.map_toArray, List.map_cons, List.map_nil, hx, hy]
  kernel_rfl
/-- A row of three slices of bytes. -/
theorem wp_three_bs (x y z : Operand) (ho : o.op = .buildSlice 58 3 #[(0, x), (1, y), (2, z)]) (qu : Option Addr) (nu cu : Nat) (qv : Option Addr) (nv cv : Nat) (qw : Option Addr) (nw cw : Nat)
    (hx : a.eval x = .slice qu nu cu) (hy : a.eval y = .slice qv nv cv) (hz : a.eval z = .slice qw nw cw)
    (h : K (a.put o.dst (.slice (some ⟨w.heap.size, 0, none⟩) 3 3)) (w.alloc (.cells #[.slice qu nu cu, .slice qv nv cv, .slice qw nw cw] 26))) : o.wp Tryd.prog a w K Q := by
  obtain ⟨i0, hi, hz0, hz1, hz2⟩ := info_parts slT_infoP
  refine wp_buildSlice 58 26 3 _ ho #[.slice qu nu cu, .slice qv nv cv, .slice qw nw cw] i0 _ Tryd.underlying58 hi hz0 (by rw [hz1]; omega) (by rw [hz1]; omega) ?_ h
  rw [hz1]
  simp only [List.map_toArray, List.map_cons, List.map_nil, hx, hy, hz]
  kernel_rfl
/-- A piece is stored into the box that was laid for it. -/
theorem wpList_store_pc (hgd : o.guard = none) (x y : Operand) (ho : o.op = .store 28 x y) (g : Nat) (p : Pc) (h1 : p.2.1.oneCell' = true) (hx : a.eval x = .pointer (some ⟨g, 0, none⟩)) (hy : a.eval y = .agg (encP p).toArray)
    (hh : Has w g 28 zPc.toList)
    (h : ∀ w', Has w' g 28 (encP p) → (∀ b, b ≤ g → Below b w w') → (∀ k, k ≠ g → w'.heap[k]? = w.heap[k]?) → wpList Tryd.prog ops Q rest (a.put o.dst undef) w') : wpList Tryd.prog ops Q (o :: rest) a w := by
  refine wpList_store_row hgd _ x y ho g (encP p).toArray hx hy _ zPc.toList.toArray hh (by rw [szPc, List.size_toArray, encP_len]) (by rw [List.size_toArray, List.size_toArray, encP_len]; exact zPc_size) (encP_all h1) ?_
  exact h _ (hh.rowl _) (fun b hb => below_row (Below.refl _ _) hb _) (fun k hk => setRow_other w g k _ hk)
end
theorem made_z (w : World) : Has (w.alloc (.cells zPc 28)) w.heap.size 28 zPc.toList := Has.made' _ _ _ _ (by simp)
/-- The piece that a box holds. -/
theorem load_box {o : Oper} {ev : Operand → Value} {w : World} (x : Operand) (ho : o.op = .load 28 x) (g : Nat) (hx : ev x = .pointer (some ⟨g, 0, none⟩)) (p : Pc) (h : Has w g 28 (encP p)) :
    (execOp ev o).run Tryd.prog w = .ok (.value (.agg (encP p).toArray)) w :=
  load_pc 33 28 elPc x ho _ hx p (fun j u hu => by rw [add_lit', Nat.zero_add]; exact h.cellv hu)
/-- Its sum. -/
theorem load_boxS {o : Oper} {ev : Operand → Value} {w : World} (x : Operand) (ho : o.op = .load 24 x) (g : Nat) (hx : ev x = .pointer (some ⟨g, 0, none⟩)) (p : Pc) (h : Has w g 28 (encP p)) :
    (execOp ev o).run Tryd.prog w = .ok (.value (.agg (encU p.1).toArray)) w :=
  load_su 24 x ho _ hx elSum.2.1 szSum p.1 (fun j u hu => by rw [add_lit', Nat.zero_add]; exact h.cellv (encP_su hu))
/-- A fresh row reads as its cells. -/
theorem made_row (w : World) (E : TypeId) (l : List Value) : Sees (w.alloc (.cells l.toArray E)) (w.alloc (.cells l.toArray E)).heap.size (some ⟨w.heap.size, 0, none⟩) l := by
  have hh : Has (w.alloc (.cells l.toArray E)) w.heap.size E l := Has.made' _ _ _ _ rfl
  exact Sees.of_has hh hh.lt
theorem Sees.keepS {w w' : World} {q : Option Addr} {l : List Value} (h : Sees w w.heap.size q l) (hb : Below w.heap.size w w') : Sees w' w'.heap.size q l := (h.keep hb).more hb.size
theorem Pcb.none (w : World) : Pcb w [] := fun p hp => by cases hp
theorem Pcb.cons {w : World} {p : Pc} {L : List Pc} (h : Bs w p.2.1 p.2.2) (hs : Pcb w L) : Pcb w (p :: L) := fun x hx => by
  rcases List.mem_cons.1 hx with rfl | hx
  · exact h
  · exact hs x hx
/-- Blocks' cells stay; what is frozen in them may change. -/
def Flo (base : Nat) (w w' : World) : Prop := Below base w w' ∧ w.heap.size ≤ w'.heap.size ∧ ∀ (k : Nat) (cs : Array Value) (t : TypeId) (f : Nat × Nat), w.heap[k]? = some (Obj.cells cs t f) → ∃ f', w'.heap[k]? = some (Obj.cells cs t f')
theorem Flo.of {base : Nat} {w w' : World} (hB : base ≤ w.heap.size) (h : Below w.heap.size w w') : Flo base w w' := ⟨h.mono hB, h.size, fun k cs t f hk => ⟨f, by
  rw [h.block k (Array.getElem?_eq_some_iff.1 hk).1]; exact hk⟩⟩
theorem Flo.refl (base : Nat) (w : World) : Flo base w w := ⟨Below.refl _ _, Nat.le_refl _, fun _ _ _ f h => ⟨f, h⟩⟩
/-- Block g holds these cells. -/
def Cl (w : World) (g : Nat) (t : TypeId) (l : List Value) : Prop := ∃ f, w.heap[g]? = some (.cells l.toArray t f)
theorem Cl.flo {base : Nat} {w w' : World} {g : Nat} {t : TypeId} {l : List Value} (h : Cl w g t l) (he : Flo base w w') : Cl w' g t l := by
  obtain ⟨f, h⟩ := h
  exact he.2.2 _ _ _ _ h
theorem Cl.lt {w : World} {g : Nat} {t : TypeId} {l : List Value} (h : Cl w g t l) : g < w.heap.size := by
  obtain ⟨f, h⟩ := h
  exact (Array.getElem?_eq_some_iff.1 h).1
theorem Cl.cell {w : World} {g : Nat} {t : TypeId} {l : List Value} (h : Cl w g t l) (i : Nat) : w.cell? ⟨g, i, none⟩ = l[i]? := by
  obtain ⟨f, h⟩ := h
  rw [cell_of_row w g i l.toArray t f h]; simp
theorem Cl.sees {w : World} {g : Nat} {t : TypeId} {l : List Value} (h : Cl w g t l) : Sees w w.heap.size (some ⟨g, 0, none⟩) l := fun _ =>
  ⟨⟨g, 0, none⟩, rfl, h.lt, fun j u hu => by rw [add_lit', Nat.zero_add]; exact (h.cell j).trans hu⟩
theorem Cl.made (w : World) (t : TypeId) (l : List Value) : Cl (w.alloc (.cells l.toArray t)) w.heap.size t l := ⟨(0, 0), heap_alloc_new _ _⟩
theorem Cl.bs {w : World} {g n : Nat} {x : List (BitVec 8)} (h : Cl w g 5 (x.map u8v)) (hn : x.length = n) : Bs w (.slice (some ⟨g, 0, none⟩) n n) x :=
  ⟨some ⟨g, 0, none⟩, n, by rw [hn], by rw [hn]; exact Nat.le_refl _, fun h => (by cases h), h.sees⟩
/-- A literal's conversion, wherever its block lies. -/
theorem freeze_flo {base : Nat} {w : World} {g n : Nat} (hg : base ≤ g) : Flo base w (w.freeze ⟨g, n, none⟩ 1) := by
  unfold World.freeze
  rw [if_neg (by decide)]
  refine ⟨⟨rfl, rfl, rfl, by simp, fun k hk => ?_⟩, by simp, fun k cs t f hk => ?_⟩
  · simp only [Array.getElem?_modify]
    rw [if_neg (by omega)]
  · simp only [Array.getElem?_modify]
    by_cases h : g = k
    · rw [if_pos h, hk]; exact ⟨_, rfl⟩
    · rw [if_neg h]; exact ⟨f, hk⟩
theorem conv_at {w : World} {g : Nat} {l : List Value} (h : Cl w g 5 l) (n c : Nat) :
    (convert 26 26 (.slice (some ⟨g, 0, none⟩) n c)).run Tryd.prog w = .ok (.slice (some ⟨g, 0, none⟩) n c) (w.freeze ⟨g, l.length, none⟩ 1) := by
  have hsh : w.shape? g = some (5, l.length) := by
    obtain ⟨f, h⟩ := h
    unfold World.shape?
    rw [h]; simp
  simp [convert, run_underlying Tryd.underlying26, run_underlying Tryd.underlying5, markStringish, hsh]
section
variable {o : Oper} {a : Act} {w : World} {Q : Exit → Act → World → Prop} {K : Act → World → Prop}
theorem wp_conv_at (x : Operand) (ho : o.op = .convert 26 26 x) (g n c : Nat) (l : List Value) (hx : a.eval x = .slice (some ⟨g, 0, none⟩) n c) (hc : Cl w g 5 l)
    (h : K (a.put o.dst (.slice (some ⟨g, 0, none⟩) n c)) (w.freeze ⟨g, l.length, none⟩ 1)) : o.wp Tryd.prog a w K Q := by
  unfold Oper.wp execOp
  simp only [ho, hx, Sem.run_bind, conv_at hc n c, Result.andThen_ok]
  exact h
theorem wp_val {v : Value} (hr : (execOp a.eval o).run Tryd.prog w = .ok (.value v) w) (h : K (a.put o.dst v) w) : o.wp Tryd.prog a w K Q := by
  unfold Oper.wp
  rw [hr]
  exact h
end
theorem run_move {o : Oper} {ev : Operand → Value} {w : World} (x : Operand) (ho : o.op = .move x) {v : Value} (hx : ev x = v) : (execOp ev o).run Tryd.prog w = .ok (.value v) w := by
  unfold execOp; simp [ho, hx]
theorem run_assign {o : Oper} {ev : Operand → Value} {w : World} (x : Operand) (ho : o.op = .assign x) {v : Value} (hx : ev x = v) : (execOp ev o).run Tryd.prog w = .ok (.value v) w := by
  unfold execOp; simp [ho, hx]
theorem run_extract {o : Oper} {ev : Operand → Value} {w : World} (x : Operand) (k : Nat) (ho : o.op = .extract x k) {vs : Array Value} {v : Value} (hx : ev x = .tuple vs) (hk : vs[k]? = some v) : (execOp ev o).run Tryd.prog w = .ok (.value v) w := by
  unfold execOp; simp [ho, hx, Instr.extract, hk]
theorem run_field0 {o : Oper} {ev : Operand → Value} {w : World} (x : Operand) (ho : o.op = .fieldAddr 28 x 0) (g : Nat) (hx : ev x = .pointer (some ⟨g, 0, none⟩)) : (execOp ev o).run Tryd.prog w = .ok (.value (.pointer (some ⟨g, 0, none⟩))) w := by
  unfold execOp; simp only [ho, hx]; kernel_rfl
theorem flow_val {lo : List Oper} {Q : Exit → Act → World → Prop} {S : World → Prop} {Phi : Nat → Value → World → Prop} {E : World → World → Prop} {A : Act} {w : World} {j : Nat} {o : Oper} (ho : lo[j]? = some o) (hw : Region.wanted o (yielded lo.toArray A.tmps) = true) (v : Value) (hr : (execOp A.eval o).run Tryd.prog w = .ok (.value v) w) (hS : S w) (hE : E w w) (hP : Phi j v w) :
    FlowOp Tryd.prog lo Q S Phi E A w j := ⟨o, ho, hw, fun _ hK => wp_val hr (hK v w hS hE hP)⟩
theorem wp_callO {o : Oper} {a : Act} {w : World} {Q : Exit → Act → World → Prop} {K : Act → World → Prop} (f : FuncId) (x : Operand) (ts : Array TypeId) (ho : o.op = .call { callee := .value (.func f), args := #[x], argTypes := ts }) (u : Value) (hx : a.eval x = u) (hcf : (callFunc f #[u]).run Tryd.prog w = .ok (.enter f #[u]) w)
    {R : Ending → World → Prop} (hc : Calls Tryd.prog f #[u] w R) (h : ∀ e w', R e w' → ∃ r, e = .returned r ∧ K (a.put o.dst r) w') : o.wp Tryd.prog a w K Q := by
  unfold Oper.wp
  have he : (execOp a.eval o).run Tryd.prog w = .ok (.enter f #[u]) w := by
    unfold execOp
    have hf : a.eval (.func f) = .func (.func f) #[] #[] := rfl
    simp [ho, resolve, invoke, hx, hf, Deferred.ofValue, hcf]
  rw [he, Oper.upon_enter]
  refine Calls.mono hc ?_
  intro e w' hr
  obtain ⟨r, rfl, hk⟩ := h e w' hr
  exact hk
theorem wp_callT {o : Oper} {a : Act} {w : World} {Q : Exit → Act → World → Prop} {K : Act → World → Prop} (f : FuncId) (x y : Operand) (ts : Array TypeId) (ho : o.op = .call { callee := .value (.func f), args := #[x, y], argTypes := ts }) (u v : Value) (hx : a.eval x = u) (hy : a.eval y = v) (hcf : (callFunc f #[u, v]).run Tryd.prog w = .ok (.enter f #[u, v]) w)
    {R : Ending → World → Prop} (hc : Calls Tryd.prog f #[u, v] w R) (h : ∀ e w', R e w' → ∃ r, e = .returned r ∧ K (a.put o.dst r) w') : o.wp Tryd.prog a w K Q := by
  unfold Oper.wp
  have he : (execOp a.eval o).run Tryd.prog w = .ok (.enter f #[u, v]) w := by
    unfold execOp
    have hf : a.eval (.func f) = .func (.func f) #[] #[] := rfl
    simp [ho, resolve, invoke, hx, hy, hf, Deferred.ofValue, hcf]
  rw [he, Oper.upon_enter]
  refine Calls.mono hc ?_
  intro e w' hr
  obtain ⟨r, rfl, hk⟩ := h e w' hr
  exact hk
theorem of_at {w : World} {g : Nat} {v : Value} {x : List (BitVec 8)} (hc : Cl w g 26 [v]) (h : Bs w v x) (hx : x.length ≤ 1000000) (hL : Laid w) :
    Calls Tryd.prog 9 #[.slice (some ⟨g, 0, none⟩) 1 1] w fun e w' => e = .returned (.agg (encU (shaU x)).toArray) ∧ Below w.heap.size w w' := by
  obtain ⟨q, c, rfl, hc', _, hs⟩ := h
  have hP : Parts w w.heap.size (some ⟨g, 0, none⟩) [x] := fun i hi => by
    obtain rfl : i = 0 := by simpa using hi
    exact ⟨⟨g, 0, none⟩, q, c, rfl, hc.lt, by rw [add_lit', Nat.zero_add]; exact hc.cell 0, hc', hs⟩
  have h := of_any [x] _ 1 _ hP (by simp) (by simp; omega) hL
  refine Calls.mono h ?_
  rintro e w' ⟨rfl, h2⟩
  have e : ([x] : List (List (BitVec 8))).flatten = x := by simp
  rw [e]
  exact ⟨rfl, h2⟩
/-- A piece of which the sum alone is given. -/
theorem built_pc0 (s : Su) : Tryd.prog.built 28 [(0, .agg (encU s).toArray)] = some (encP (s, .slice none 0 0, [])).toArray := by
  obtain ⟨l, hl⟩ := s
  unfold encP encU
  match l, hl with
  | [a0, a1, a2, a3, a4, a5, a6, a7, a8, a9, b0, b1, b2, b3, b4, b5, b6, b7, b8, b9, c0, c1, c2, c3, c4, c5, c6, c7, c8, c9, d0, d1], _ => show _ = _; kernel_rfl
theorem of_none (w : World) (hL : Laid w) : Calls Tryd.prog 9 #[.slice none 0 0] w fun e w' => e = .returned (.agg (encU (shaU [])).toArray) ∧ Below w.heap.size w w' :=
  of_any [] none 0 w (fun i hi => absurd hi (by simp)) (by simp) (by simp) hL
def z129 : List (BitVec 8) := List.replicate 129 0#8
theorem z129_cells : madeCells #[Value.int .u8 0] 129 = (z129.map u8v).toArray := by kernel_rfl
theorem z129_run (w : World) : (Instr.makeSlice 26 (.int .i64 129) (.int .i64 129)).run Tryd.prog w = .ok (.slice (some ⟨w.heap.size, 0, none⟩) 129 129) (w.alloc (.cells (z129.map u8v).toArray 5)) := by
  obtain ⟨i0, hi, hz0, hz1, hz2⟩ := info_parts u8_info
  have := run_make (P := Tryd.prog) w 26 5 i0 (.int .u8 0) Tryd.underlying26 hi hz0 .i64 .i64 129 129 (by omega) (by omega) (by rw [hz2]; omega) (by omega)
  rw [hz1, show (Value.int .u8 0).cells = #[Value.int .u8 0] from rfl, show Int.toNat 129 * 1 = 129 from rfl, z129_cells] at this
  simpa using this
section
variable {o : Oper} {a : Act} {w : World} {Q : Exit → Act → World → Prop} {K : Act → World → Prop}
theorem wp_z129 (ho : o.op = .makeSlice 26 (.const (.int .i64 129)) (.const (.int .i64 129)))
    (h : K (a.put o.dst (.slice (some ⟨w.heap.size, 0, none⟩) 129 129)) (w.alloc (.cells (z129.map u8v).toArray 5))) : o.wp Tryd.prog a w K Q := by
  unfold Oper.wp execOp
  have e : a.eval (.const (.int .i64 129)) = .int .i64 129 := rfl
  simp only [ho, e, Sem.run_bind, z129_run w, Result.andThen_ok]
  exact h
theorem wp_alloc_pc (ho : o.op = .alloc 28) (h : K (a.put o.dst (.pointer (some ⟨w.heap.size, 0, none⟩))) (w.alloc (.cells zPc 28))) : o.wp Tryd.prog a w K Q := by
  unfold Oper.wp execOp
  simp [ho, Instr.alloc, zPc_run w, newVar, newRow, Value.cells, Result.andThen]
  exact h
end
theorem Has.cl {w : World} {g : Nat} {t : TypeId} {l : List Value} (h : Has w g t l) : Cl w g t l := ⟨(0, 0), h⟩
theorem Has.apartT {w : World} {g k : Nat} {t s : TypeId} {l m : List Value} (h : Has w g t l) (h' : Has w k s m) (hne : t ≠ s) : g ≠ k := fun e => by
  subst e
  have h1 := Option.some.inj (h.symm.trans h')
  injection h1 with _ h2 _
  exact hne h2
theorem Ps.two {w : World} {q : Option Addr} {u v : Value} {x y : List (BitVec 8)} (hs : Sees w w.heap.size q [u, v]) (hu : Bs w u x) (hv : Bs w v y) : Ps w (.slice q 2 2) [x, y] :=
  ⟨q, 2, [u, v], rfl, hs, rfl, fun i a b ha hb => by
    match i with
    | 0 => simp at ha hb; subst ha hb; exact hu
    | 1 => simp at ha hb; subst ha hb; exact hv
    | n + 2 => simp at ha⟩
theorem Ps.three {w : World} {q : Option Addr} {u v t : Value} {x y z : List (BitVec 8)} (hs : Sees w w.heap.size q [u, v, t]) (hu : Bs w u x) (hv : Bs w v y) (ht : Bs w t z) : Ps w (.slice q 3 3) [x, y, z] :=
  ⟨q, 3, [u, v, t], rfl, hs, rfl, fun i a b ha hb => by
    match i with
    | 0 => simp at ha hb; subst ha hb; exact hu
    | 1 => simp at ha hb; subst ha hb; exact hv
    | 2 => simp at ha hb; subst ha hb; exact ht
    | n + 3 => simp at ha⟩
theorem len_AB : (srt (namesA [tA, tB])).length < 4611686018427387904 := by
  have h := len_srt_le (namesA [tA, tB])
  have e : (namesA [tA, tB]).length = 2 := by
    unfold namesA
    simp [nm_A, nm_B]
  rw [e] at h
  exact Nat.lt_of_le_of_lt h (by decide)
theorem strAA : strB [97#8, 97#8] = { data := #[97, 97] } := by kernel_rfl
/-- What the operations of ChunkKnown's tenth region leave. -/
def phi10 (base : Nat) : Nat → Value → World → Prop
  | 0, v, w => ∃ g, v = .slice (some ⟨g, 0, none⟩) 129 129 ∧ Has w g 5 (z129.map u8v)
  | 1, v, w => ∃ g h, v = .slice (some ⟨h, 0, none⟩) 1 1 ∧ Has w h 26 [.slice (some ⟨g, 0, none⟩) 129 129] ∧ Has w g 5 (z129.map u8v)
  | 2, v, _ => v = .agg (encU (shaU z129)).toArray
  | 3, v, w => ∃ g, v = .slice (some ⟨g, 0, none⟩) 129 129 ∧ Has w g 5 (z129.map u8v)
  | 4, v, w => ∃ g, v = .agg (encP (shaU z129, .slice (some ⟨g, 0, none⟩) 129 129, z129)).toArray ∧ Has w g 5 (z129.map u8v)
  | 5, v, w => ∃ g, v = .pointer (some ⟨g, 0, none⟩) ∧ base ≤ g ∧ Has w g 28 zPc.toList
  | _, _, _ => True
theorem phi10_ext {base : Nat} : ∀ (i : Nat) (v : Value) (w w' : World), phi10 base i v w → Ext w w' → phi10 base i v w' := by
  intro i v w w' h he
  unfold phi10 at h ⊢
  split at h
  · obtain ⟨g, h1, h2⟩ := h; exact ⟨g, h1, h2.keepB he⟩
  · obtain ⟨g, k, h1, h2, h3⟩ := h; exact ⟨g, k, h1, h2.keepB he, h3.keepB he⟩
  · exact h
  · obtain ⟨g, h1, h2⟩ := h; exact ⟨g, h1, h2.keepB he⟩
  · obtain ⟨g, h1, h2⟩ := h; exact ⟨g, h1, h2.keepB he⟩
  · obtain ⟨g, h1, h2, h3⟩ := h; exact ⟨g, h1, h2, h3.keepB he⟩
  · trivial
def wait10 (i : Nat) : List Nat := ([[], [0], [1], [], [2, 3], [], [0, 1, 2, 3, 4, 5]] : List (List Nat)).getD i []
def slots10 : List (Nat × Nat) := [(89, 0), (90, 1), (91, 2), (92, 3), (93, 4), (14, 5)]
theorem flo10 : flowB slots10 wait10 (regOf Tryd.f3.body 10) = true := by kernel_rfl
/-- What the operations of ChunkKnown's fifth and sixth region leave. -/
def phi5 (base b : Nat) (p : Pc) (n : Int) : Nat → Value → World → Prop
  | 0, v, _ => v = .pointer (some ⟨b, 0, none⟩)
  | 1, v, _ => v = .agg (encU p.1).toArray
  | 2, v, w => ∃ g, v = .slice (some ⟨g, 0, none⟩) 1 1 ∧ base ≤ g ∧ Cl w g 5 (tQ.map u8v)
  | 3, v, w => ∃ g, v = .slice (some ⟨g, 0, none⟩) 1 1 ∧ base ≤ g ∧ Cl w g 5 (tQ.map u8v)
  | 4, v, w => ∃ g h, v = .slice (some ⟨h, 0, none⟩) 1 1 ∧ Cl w h 26 [.slice (some ⟨g, 0, none⟩) 1 1] ∧ Cl w g 5 (tQ.map u8v)
  | 5, v, _ => v = .agg (encU sQ).toArray
  | 6, v, w => ∃ g, v = .slice (some ⟨g, 0, none⟩) 2 2 ∧ Cl w g 24 (rowU [p.1, sQ])
  | 7, v, _ => v = .agg (encP p).toArray
  | 8, v, w => ∃ g, v = .slice (some ⟨g, 0, none⟩) 1 1 ∧ Cl w g 28 (rowP [p])
  | 9, v, _ => ∃ u, v = .tuple #[u, .int .i64 n]
  | 10, v, _ => ∃ u, v = .tuple #[u, .int .i64 n]
  | 12, v, _ => v = .int .i64 n
  | 14, v, _ => v = .int .i64 n
  | _, _, _ => True
theorem phi5_flo {base b : Nat} {p : Pc} {n : Int} : ∀ (i : Nat) (v : Value) (w w' : World), phi5 base b p n i v w → Flo base w w' → phi5 base b p n i v w' := by
  intro i v w w' h he
  unfold phi5 at h ⊢
  split at h
  · exact h
  · exact h
  · obtain ⟨g, h1, h2, h3⟩ := h; exact ⟨g, h1, h2, h3.flo he⟩
  · obtain ⟨g, h1, h2, h3⟩ := h; exact ⟨g, h1, h2, h3.flo he⟩
  · obtain ⟨g, k, h1, h2, h3⟩ := h; exact ⟨g, k, h1, h2.flo he, h3.flo he⟩
  · exact h
  · obtain ⟨g, h1, h2⟩ := h; exact ⟨g, h1, h2.flo he⟩
  · exact h
  · obtain ⟨g, h1, h2⟩ := h; exact ⟨g, h1, h2.flo he⟩
  · exact h
  · exact h
  · exact h
  · exact h
  · trivial
def wait5 (i : Nat) : List Nat := ([[], [0], [], [2], [3], [4], [1, 5], [], [7], [6, 8], [9], [10], [10], [11], [12]] : List (List Nat)).getD i []
def slots5 : List (Nat × Nat) := [(44, 0), (45, 1), (46, 2), (47, 3), (48, 4), (49, 5), (50, 6), (51, 7), (52, 8), (53, 9), (43, 10), (54, 11), (55, 12), (5, 13), (6, 14)]
def slots6 : List (Nat × Nat) := [(57, 0), (58, 1), (59, 2), (60, 3), (61, 4), (62, 5), (63, 6), (64, 7), (65, 8), (66, 9), (56, 10), (67, 11), (68, 12), (7, 13), (8, 14)]
theorem flo5 : flowB slots5 wait5 (regOf Tryd.f3.body 5) = true := by kernel_rfl
theorem flo6 : flowB slots6 wait5 (regOf Tryd.f3.body 6) = true := by kernel_rfl
end Go.Proofs.YthpledfjopbchaaDoor
/- The law ChunkKnown: it answers true. Condition: the sums' tables are laid. -/
namespace Go.Proofs.YthpledfjopbchaaDoor
open Go.RowKit
set_option maxHeartbeats 16000000 in
set_option maxRecDepth 100000 in
theorem chunkKnown_any (w : World) (hL : Laid w) : Calls Tryd.prog 3 #[] w fun e w' => e = .returned (.bool true) ∧ Below w.heap.size w w' := by
  have HL := Lib.hid hL
  have HSZ := Lib.hid hL.size
  have HAW := Lib.hid (awake11_any w hL)
  clear hL
  go_enter Tryd.func3, Tryd.ntmps3
  go_upto_region 3 with ((with_reducible refine HAW.out.mono ?_); rintro e w0 ⟨rfl, h2⟩; have HB := Lib.hid h2; clear h2)
  clear HAW
  refine wp_region_lit ?_
  try simp only [Act.put, List.setIfInBounds_toArray, List.set_cons_zero, List.set_cons_succ]
  refine lp_step (by kernel_rfl) (fun K hK => wp_lit8 1 _ rfl #[Value.int .u8 97] (by decide) (by decide) (by kernel_rfl) (hK _ _ ?_))
  try simp only [Act.put, List.setIfInBounds_toArray, List.set_cons_zero, List.set_cons_succ]
  refine lp_step (by kernel_rfl) (fun K hK => wp_convk (.tmp 17) rfl #[Value.int .u8 97] 1 1 rfl (hK _ _ ?_))
  try simp only [Act.put, List.setIfInBounds_toArray, List.set_cons_zero, List.set_cons_succ]
  have HST : Hid (Below w0.heap.size w0 (w0.alloc (.cells #[Value.int .u8 97] 5 (#[Value.int .u8 97].size, #[Value.int .u8 97].size + 1)))) := Lib.hid ((Below.refl _ _).alloc (Nat.le_refl _) _)
  have HA1 : Hid (Bs (w0.alloc (.cells #[Value.int .u8 97] 5 (#[Value.int .u8 97].size, #[Value.int .u8 97].size + 1))) (.slice (some ⟨w0.heap.size, 0, none⟩) 1 1) tA) := Lib.hid (bs_litk w0 tA #[Value.int .u8 97] _ (by kernel_rfl) 1 rfl)
  replace HB := Lib.hid (HB.out.trans (HST.out.mono HB.out.size))
  clear HST
  generalize w0.alloc (.cells #[Value.int .u8 97] 5 (#[Value.int .u8 97].size, #[Value.int .u8 97].size + 1)) = w1 at *
  generalize w0.heap.size = g1 at *
  have HOF := Lib.hid (of_one HA1.out (show (1 : Nat) ≤ 1000000 by decide) (HL.out.keep HB.out HSZ.out))
  refine lp_step (by kernel_rfl) (fun K hK => wp_one_bs (.tmp 18) rfl (some ⟨g1, 0, none⟩) 1 1 rfl (hK _ _ ?_))
  try simp only [Act.put, List.setIfInBounds_toArray, List.set_cons_zero, List.set_cons_succ]
  refine lp_step (by kernel_rfl) (fun K hK => ?_)
  go_wp2_with fail
  refine Calls.mono (HOF.out) ?_
  rintro e w2 ⟨rfl, _, hb⟩
  have HST := Lib.hid hb
  clear hb HOF
  replace HA1 := Lib.hid (HA1.out.keep HST.out)
  replace HB := Lib.hid (HB.out.trans (HST.out.mono HB.out.size))
  clear HST
  refine hK _ _ ?_
  clear hK
  try simp only [Act.put, List.setIfInBounds_toArray, List.set_cons_zero, List.set_cons_succ]
  clear HA1
  refine lp_step (by kernel_rfl) (fun K hK => wp_lit8 1 _ rfl #[Value.int .u8 97] (by decide) (by decide) (by kernel_rfl) (hK _ _ ?_))
  try simp only [Act.put, List.setIfInBounds_toArray, List.set_cons_zero, List.set_cons_succ]
  refine lp_step (by kernel_rfl) (fun K hK => wp_convk (.tmp 21) rfl #[Value.int .u8 97] 1 1 rfl (hK _ _ ?_))
  try simp only [Act.put, List.setIfInBounds_toArray, List.set_cons_zero, List.set_cons_succ]
  have HST : Hid (Below w2.heap.size w2 (w2.alloc (.cells #[Value.int .u8 97] 5 (#[Value.int .u8 97].size, #[Value.int .u8 97].size + 1)))) := Lib.hid ((Below.refl _ _).alloc (Nat.le_refl _) _)
  have HA : Hid (Bs (w2.alloc (.cells #[Value.int .u8 97] 5 (#[Value.int .u8 97].size, #[Value.int .u8 97].size + 1))) (.slice (some ⟨w2.heap.size, 0, none⟩) 1 1) tA) := Lib.hid (bs_litk w2 tA #[Value.int .u8 97] _ (by kernel_rfl) 1 rfl)
  replace HB := Lib.hid (HB.out.trans (HST.out.mono HB.out.size))
  clear HST
  generalize w2.alloc (.cells #[Value.int .u8 97] 5 (#[Value.int .u8 97].size, #[Value.int .u8 97].size + 1)) = w3 at *
  generalize w2.heap.size = g3 at *
  refine lp_pure (by kernel_rfl) (build_cells 28 _ rfl (encP (sA, .slice (some ⟨g3, 0, none⟩) 1 1, tA)).toArray [(0, .agg (encU sA).toArray), (1, .slice (some ⟨g3, 0, none⟩) 1 1)] (by kernel_rfl) (built_pc sA (some ⟨g3, 0, none⟩) 1 1 tA)) ?_
  try simp only [Act.put, List.setIfInBounds_toArray, List.set_cons_zero, List.set_cons_succ]
  refine lp_step (by kernel_rfl) (fun K hK => wp_lit8 1 _ rfl #[Value.int .u8 98] (by decide) (by decide) (by kernel_rfl) (hK _ _ ?_))
  try simp only [Act.put, List.setIfInBounds_toArray, List.set_cons_zero, List.set_cons_succ]
  refine lp_step (by kernel_rfl) (fun K hK => wp_convk (.tmp 24) rfl #[Value.int .u8 98] 1 1 rfl (hK _ _ ?_))
  try simp only [Act.put, List.setIfInBounds_toArray, List.set_cons_zero, List.set_cons_succ]
  have HST : Hid (Below w3.heap.size w3 (w3.alloc (.cells #[Value.int .u8 98] 5 (#[Value.int .u8 98].size, #[Value.int .u8 98].size + 1)))) := Lib.hid ((Below.refl _ _).alloc (Nat.le_refl _) _)
  have HB1 : Hid (Bs (w3.alloc (.cells #[Value.int .u8 98] 5 (#[Value.int .u8 98].size, #[Value.int .u8 98].size + 1))) (.slice (some ⟨w3.heap.size, 0, none⟩) 1 1) tB) := Lib.hid (bs_litk w3 tB #[Value.int .u8 98] _ (by kernel_rfl) 1 rfl)
  replace HA := Lib.hid (HA.out.keep HST.out)
  replace HB := Lib.hid (HB.out.trans (HST.out.mono HB.out.size))
  clear HST
  generalize w3.alloc (.cells #[Value.int .u8 98] 5 (#[Value.int .u8 98].size, #[Value.int .u8 98].size + 1)) = w4 at *
  generalize w3.heap.size = g4 at *
  have HOF := Lib.hid (of_one HB1.out (show (1 : Nat) ≤ 1000000 by decide) (HL.out.keep HB.out HSZ.out))
  refine lp_step (by kernel_rfl) (fun K hK => wp_one_bs (.tmp 25) rfl (some ⟨g4, 0, none⟩) 1 1 rfl (hK _ _ ?_))
  try simp only [Act.put, List.setIfInBounds_toArray, List.set_cons_zero, List.set_cons_succ]
  refine lp_step (by kernel_rfl) (fun K hK => ?_)
  go_wp2_with fail
  refine Calls.mono (HOF.out) ?_
  rintro e w5 ⟨rfl, _, hb⟩
  have HST := Lib.hid hb
  clear hb HOF
  replace HA := Lib.hid (HA.out.keep HST.out)
  replace HB1 := Lib.hid (HB1.out.keep HST.out)
  replace HB := Lib.hid (HB.out.trans (HST.out.mono HB.out.size))
  clear HST
  refine hK _ _ ?_
  clear hK
  try simp only [Act.put, List.setIfInBounds_toArray, List.set_cons_zero, List.set_cons_succ]
  clear HB1
  refine lp_step (by kernel_rfl) (fun K hK => wp_lit8 1 _ rfl #[Value.int .u8 120] (by decide) (by decide) (by kernel_rfl) (hK _ _ ?_))
  try simp only [Act.put, List.setIfInBounds_toArray, List.set_cons_zero, List.set_cons_succ]
  refine lp_step (by kernel_rfl) (fun K hK => wp_convk (.tmp 28) rfl #[Value.int .u8 120] 1 1 rfl (hK _ _ ?_))
  try simp only [Act.put, List.setIfInBounds_toArray, List.set_cons_zero, List.set_cons_succ]
  have HST : Hid (Below w5.heap.size w5 (w5.alloc (.cells #[Value.int .u8 120] 5 (#[Value.int .u8 120].size, #[Value.int .u8 120].size + 1)))) := Lib.hid ((Below.refl _ _).alloc (Nat.le_refl _) _)
  have HX : Hid (Bs (w5.alloc (.cells #[Value.int .u8 120] 5 (#[Value.int .u8 120].size, #[Value.int .u8 120].size + 1))) (.slice (some ⟨w5.heap.size, 0, none⟩) 1 1) tX) := Lib.hid (bs_litk w5 tX #[Value.int .u8 120] _ (by kernel_rfl) 1 rfl)
  replace HA := Lib.hid (HA.out.keep HST.out)
  replace HB := Lib.hid (HB.out.trans (HST.out.mono HB.out.size))
  clear HST
  generalize w5.alloc (.cells #[Value.int .u8 120] 5 (#[Value.int .u8 120].size, #[Value.int .u8 120].size + 1)) = w6 at *
  generalize w5.heap.size = g6 at *
  refine lp_pure (by kernel_rfl) (build_cells 28 _ rfl (encP (sB, .slice (some ⟨g6, 0, none⟩) 1 1, tX)).toArray [(0, .agg (encU sB).toArray), (1, .slice (some ⟨g6, 0, none⟩) 1 1)] (by kernel_rfl) (built_pc sB (some ⟨g6, 0, none⟩) 1 1 tX)) ?_
  try simp only [Act.put, List.setIfInBounds_toArray, List.set_cons_zero, List.set_cons_succ]
  refine wpList_alloc rfl _ rfl zPc (zPc_run _) ?_
  try simp only [Act.put, List.setIfInBounds_toArray, List.set_cons_zero, List.set_cons_succ]
  refine wpList_alloc rfl _ rfl zPc (zPc_run _) ?_
  try simp only [Act.put, List.setIfInBounds_toArray, List.set_cons_zero, List.set_cons_succ]
  have hz1 := made_z w6
  have hlt1 := hz1.lt
  have hz1' := hz1.keepB ((Below.refl _ _).alloc (Nat.le_refl _) (.cells zPc 28))
  have hz2 := made_z (w6.alloc (.cells zPc 28))
  have HST0 : Hid (Below w6.heap.size w6 ((w6.alloc (.cells zPc 28)).alloc (.cells zPc 28))) := Lib.hid (((Below.refl _ _).alloc (Nat.le_refl _) _).alloc (by simp) _)
  have hle : w6.heap.size ≤ (w6.alloc (.cells zPc 28)).heap.size := Nat.le_of_lt hlt1
  refine wpList_store_pc rfl (.tmp 1) (.tmp 23) rfl w6.heap.size (sA, Value.slice (some ⟨g3, 0, none⟩) 1 1, tA) rfl rfl rfl hz1' ?_
  intro wb hp1 hbl1 hot1
  simp only [Act.put]
  have hz2b : Has wb (w6.alloc (.cells zPc 28)).heap.size 28 zPc.toList := (hot1 _ (by omega)).trans hz2
  refine wpList_store_pc rfl (.tmp 2) (.tmp 30) rfl (w6.alloc (.cells zPc 28)).heap.size (sB, Value.slice (some ⟨g6, 0, none⟩) 1 1, tX) rfl rfl rfl hz2b ?_
  intro wc hp2 hbl2 hot2
  simp only [Act.put]
  have HST := Lib.hid ((HST0.out.trans (hbl1 _ (Nat.le_refl _))).trans (hbl2 _ hle))
  have HPA : Hid (Has wc w6.heap.size 28 (encP (sA, Value.slice (some ⟨g3, 0, none⟩) 1 1, tA))) := Lib.hid ((hot2 _ (by omega)).trans hp1)
  have HPX := Lib.hid hp2
  replace HA := Lib.hid (HA.out.keep HST.out)
  replace HX := Lib.hid (HX.out.keep HST.out)
  replace HB := Lib.hid (HB.out.trans (HST.out.mono HB.out.size))
  clear HST HST0 hz1 hz1' hz2 hz2b hp1 hp2 hbl1 hbl2 hot1 hot2
  generalize (w6.alloc (.cells zPc 28)).heap.size = b2 at *
  generalize w6.heap.size = b1 at *
  clear hle hlt1
  refine wpList_nil ?_
  go_upto_region 4 with fail
  refine wp_region_lit ?_
  try simp only [Act.put, List.setIfInBounds_toArray, List.set_cons_zero, List.set_cons_succ]
  refine lp_pure (v := ?_) (by kernel_rfl) ?_ ?_
  rotate_left
  · go_simp; try with_reducible rfl
  try simp only [Act.put, List.setIfInBounds_toArray, List.set_cons_zero, List.set_cons_succ]
  refine lp_pure (by kernel_rfl) (load_boxS (.tmp 32) rfl b1 rfl (sA, Value.slice (some ⟨g3, 0, none⟩) 1 1, tA) HPA.out) ?_
  try simp only [Act.put, List.setIfInBounds_toArray, List.set_cons_zero, List.set_cons_succ]
  refine lp_pure (v := ?_) (by kernel_rfl) ?_ ?_
  rotate_left
  · go_simp; try with_reducible rfl
  try simp only [Act.put, List.setIfInBounds_toArray, List.set_cons_zero, List.set_cons_succ]
  refine lp_pure (by kernel_rfl) (load_boxS (.tmp 34) rfl b1 rfl (sA, Value.slice (some ⟨g3, 0, none⟩) 1 1, tA) HPA.out) ?_
  try simp only [Act.put, List.setIfInBounds_toArray, List.set_cons_zero, List.set_cons_succ]
  refine lp_step (by kernel_rfl) (fun K hK => wp_lit_su 32 24 elSum 2 _ rfl [sA, sA] rfl (by decide) (by decide) (by kernel_rfl) (hK _ _ ?_))
  try simp only [Act.put, List.setIfInBounds_toArray, List.set_cons_zero, List.set_cons_succ]
  have HST : Hid (Below wc.heap.size wc (wc.alloc (.cells (rowU [sA, sA]).toArray 24))) := Lib.hid ((Below.refl _ _).alloc (Nat.le_refl _) _)
  have HSU := Lib.hid (made_row wc 24 (rowU [sA, sA]))
  replace HA := Lib.hid (HA.out.keep HST.out)
  replace HX := Lib.hid (HX.out.keep HST.out)
  replace HPA := Lib.hid (HPA.out.keepB HST.out)
  replace HPX := Lib.hid (HPX.out.keepB HST.out)
  replace HB := Lib.hid (HB.out.trans (HST.out.mono HB.out.size))
  clear HST
  generalize wc.alloc (.cells (rowU [sA, sA]).toArray 24) = w8 at *
  generalize wc.heap.size = g8 at *
  refine lp_pure (by kernel_rfl) (load_box (.tmp 2) rfl b2 rfl (sB, Value.slice (some ⟨g6, 0, none⟩) 1 1, tX) HPX.out) ?_
  try simp only [Act.put, List.setIfInBounds_toArray, List.set_cons_zero, List.set_cons_succ]
  refine lp_pure (by kernel_rfl) (load_box (.tmp 1) rfl b1 rfl (sA, Value.slice (some ⟨g3, 0, none⟩) 1 1, tA) HPA.out) ?_
  try simp only [Act.put, List.setIfInBounds_toArray, List.set_cons_zero, List.set_cons_succ]
  refine lp_step (by kernel_rfl) (fun K hK => wp_lit_pc 33 28 elPc 2 _ rfl [(sB, Value.slice (some ⟨g6, 0, none⟩) 1 1, tX), (sA, Value.slice (some ⟨g3, 0, none⟩) 1 1, tA)] rfl (by decide) (by decide) (by kernel_rfl) (hK _ _ ?_))
  try simp only [Act.put, List.setIfInBounds_toArray, List.set_cons_zero, List.set_cons_succ]
  have HST : Hid (Below w8.heap.size w8 (w8.alloc (.cells (rowP [(sB, Value.slice (some ⟨g6, 0, none⟩) 1 1, tX), (sA, Value.slice (some ⟨g3, 0, none⟩) 1 1, tA)]).toArray 28))) := Lib.hid ((Below.refl _ _).alloc (Nat.le_refl _) _)
  have HPR := Lib.hid (made_row w8 28 (rowP [(sB, Value.slice (some ⟨g6, 0, none⟩) 1 1, tX), (sA, Value.slice (some ⟨g3, 0, none⟩) 1 1, tA)]))
  replace HA := Lib.hid (HA.out.keep HST.out)
  replace HX := Lib.hid (HX.out.keep HST.out)
  replace HPA := Lib.hid (HPA.out.keepB HST.out)
  replace HPX := Lib.hid (HPX.out.keepB HST.out)
  replace HSU := Lib.hid (HSU.out.keepS HST.out)
  replace HB := Lib.hid (HB.out.trans (HST.out.mono HB.out.size))
  clear HST
  generalize w8.alloc (.cells (rowP [(sB, Value.slice (some ⟨g6, 0, none⟩) 1 1, tX), (sA, Value.slice (some ⟨g3, 0, none⟩) 1 1, tA)]).toArray 28) = w9 at *
  generalize w8.heap.size = g9 at *
  have HJ : Hid (Calls Tryd.prog 10 #[.slice (some ⟨g8, 0, none⟩) 2 2, .slice (some ⟨g9, 0, none⟩) 2 2] w9 fun e w' => (∃ v, e = .returned (.tuple #[v, .int .i64 ((([97#8, 97#8], 0) : List (BitVec 8) × Nat).2 : Nat)]) ∧ Bs w' v (([97#8, 97#8], 0) : List (BitVec 8) × Nat).1) ∧ Below w9.heap.size w9 w') := Lib.hid (by
    have h := join_any [sA, sA] [(sB, Value.slice (some ⟨g6, 0, none⟩) 1 1, tX), (sA, Value.slice (some ⟨g3, 0, none⟩) 1 1, tA)] (some ⟨g8, 0, none⟩) (some ⟨g9, 0, none⟩) 2 2 w9 (Nat.le_of_ble_eq_true rfl) (Nat.le_of_ble_eq_true rfl) HSU.out HPR.out (Pcb.cons HX.out (Pcb.cons HA.out (Pcb.none _))) (by intro p hp; first | (exact absurd hp (List.not_mem_nil)) | (simp only [List.mem_cons, List.not_mem_nil, or_false] at hp; first | (rcases hp with rfl | rfl <;> exact Nat.le_of_ble_eq_true rfl) | (subst hp; exact Nat.le_of_ble_eq_true rfl))) (HL.out.keep HB.out HSZ.out)
    rw [jn1 (Value.slice (some ⟨g3, 0, none⟩) 1 1) (Value.slice (some ⟨g6, 0, none⟩) 1 1)] at h
    exact h)
  refine lp_step (by kernel_rfl) (fun K hK => ?_)
  go_wp2_with fail
  refine Calls.mono (HJ.out) ?_
  rintro e w10 ⟨⟨vJ1, rfl, hbs⟩, hb⟩
  have HST := Lib.hid hb
  have HvJ1 := Lib.hid hbs
  clear hb hbs HJ
  replace HA := Lib.hid (HA.out.keep HST.out)
  replace HX := Lib.hid (HX.out.keep HST.out)
  replace HPA := Lib.hid (HPA.out.keepB HST.out)
  replace HPX := Lib.hid (HPX.out.keepB HST.out)
  replace HB := Lib.hid (HB.out.trans (HST.out.mono HB.out.size))
  clear HST
  refine hK _ _ ?_
  clear hK
  try simp only [Act.put, List.setIfInBounds_toArray, List.set_cons_zero, List.set_cons_succ]
  clear HSU HPR
  refine lp_pure (v := ?_) (by kernel_rfl) ?_ ?_
  rotate_left
  · go_simp; try with_reducible rfl
  try simp only [Act.put, List.setIfInBounds_toArray, List.set_cons_zero, List.set_cons_succ]
  refine lp_pure (v := ?_) (by kernel_rfl) ?_ ?_
  rotate_left
  · go_simp; try with_reducible rfl
  try simp only [Act.put, List.setIfInBounds_toArray, List.set_cons_zero, List.set_cons_succ]
  refine lp_pure (v := ?_) (by kernel_rfl) ?_ ?_
  rotate_left
  · go_simp; try with_reducible rfl
  try simp only [Act.put, List.setIfInBounds_toArray, List.set_cons_zero, List.set_cons_succ]
  refine lp_pure (v := ?_) (by kernel_rfl) ?_ ?_
  rotate_left
  · go_simp; try with_reducible rfl
  try simp only [Act.put, List.setIfInBounds_toArray, List.set_cons_zero, List.set_cons_succ]
  refine lp_pure (v := ?_) (by kernel_rfl) ?_ ?_
  rotate_left
  · go_simp; try with_reducible rfl
  try simp only [Act.put, List.setIfInBounds_toArray, List.set_cons_zero, List.set_cons_succ]
  refine wpList_nil ?_
  go_upto_region 5 with fail
  have HSTd : Hid (Below w10.heap.size w10 w10.drew) := Lib.hid (Below.refl _ _).drew
  replace HA := Lib.hid (HA.out.keep HSTd.out)
  replace HX := Lib.hid (HX.out.keep HSTd.out)
  replace HPA := Lib.hid (HPA.out.keepB HSTd.out)
  replace HPX := Lib.hid (HPX.out.keepB HSTd.out)
  replace HvJ1 := Lib.hid (HvJ1.out.keep HSTd.out)
  replace HB := Lib.hid (HB.out.trans (HSTd.out.mono HB.out.size))
  clear HSTd
  refine wp_region_flow slots5 wait5 (phi5 w10.drew.heap.size b1 (sA, Value.slice (some ⟨g3, 0, none⟩) 1 1, tA) 5) (Flo w10.drew.heap.size) (fun w' => Below w10.drew.heap.size w10.drew w') _ flo5 (by kernel_rfl) (by kernel_rfl) (Below.refl _ _) phi5_flo ?_ ?_
  · refine lt_s (lt_s (lt_s (lt_s (lt_s (lt_s (lt_s (lt_s (lt_s (lt_s (lt_s (lt_s (lt_s (lt_s (lt_s (lt_0) ?_) ?_) ?_) ?_) ?_) ?_) ?_) ?_) ?_) ?_) ?_) ?_) ?_) ?_) ?_
    · intro f w1 hS hf
      generalize hA : putAll _ _ f = A
      have eb : A.eval (.tmp 1) = .pointer (some ⟨b1, 0, none⟩) := by rw [← hA]; kernel_rfl
      exact flow_val rfl rfl _ (run_field0 (.tmp 1) rfl b1 eb) hS (Flo.refl _ _) rfl
    · intro f w1 hS hf
      generalize hA : putAll _ _ f = A
      have e44 : A.eval (.tmp 44) = f 0 := by rw [← hA]; kernel_rfl
      have h0 : f 0 = _ := hf 0 (by decide)
      exact flow_val rfl rfl _ (load_boxS (.tmp 44) rfl b1 (e44.trans h0) (sA, Value.slice (some ⟨g3, 0, none⟩) 1 1, tA) (HPA.out.keepB hS)) hS (Flo.refl _ _) rfl
    · intro f w1 hS hf
      generalize hA : putAll _ _ f = A
      exact ⟨_, rfl, rfl, fun K hK => wp_lit8 1 _ rfl ((tQ.map u8v).toArray) (by decide) (by decide) (by kernel_rfl) (hK _ _ (hS.alloc hS.size _) (Flo.of hS.size ((Below.refl w1.heap.size w1).alloc (Nat.le_refl _) _)) ⟨_, rfl, hS.size, Cl.made w1 _ _⟩)⟩
    · intro f w1 hS hf
      generalize hA : putAll _ _ f = A
      have e46 : A.eval (.tmp 46) = f 2 := by rw [← hA]; kernel_rfl
      obtain ⟨g, hv, hg, hc⟩ := hf 2 (by decide)
      exact ⟨_, rfl, rfl, fun K hK => wp_conv_at (.tmp 46) rfl g 1 1 _ (e46.trans hv) hc (hK _ _ (hS.trans (freeze_flo hg).1) (freeze_flo hg) ⟨g, rfl, hg, hc.flo (freeze_flo hg)⟩)⟩
    · intro f w1 hS hf
      generalize hA : putAll _ _ f = A
      have e47 : A.eval (.tmp 47) = f 3 := by rw [← hA]; kernel_rfl
      obtain ⟨g, hv, hg, hc⟩ := hf 3 (by decide)
      exact ⟨_, rfl, rfl, fun K hK => wp_one_bs (.tmp 47) rfl (some ⟨g, 0, none⟩) 1 1 (e47.trans hv) (hK _ _ (hS.alloc hS.size _) (Flo.of hS.size ((Below.refl w1.heap.size w1).alloc (Nat.le_refl _) _)) ⟨g, _, rfl, Cl.made w1 _ [_], hc.flo (Flo.of hS.size ((Below.refl w1.heap.size w1).alloc (Nat.le_refl _) _))⟩)⟩
    · intro f w1 hS hf
      generalize hA : putAll _ _ f = A
      have e48 : A.eval (.tmp 48) = f 4 := by rw [← hA]; kernel_rfl
      obtain ⟨g, k, hv, hk, hc⟩ := hf 4 (by decide)
      have HOF := of_at hk (hc.bs rfl) (Nat.le_of_ble_eq_true rfl) (HL.out.keep (HB.out.trans (hS.mono HB.out.size)) HSZ.out)
      exact ⟨_, rfl, rfl, fun K hK => wp_callO 9 (.tmp 48) _ rfl _ (e48.trans hv) (by kernel_rfl) HOF (fun e w' he => ⟨_, he.1, hK _ _ (hS.trans (he.2.mono hS.size)) (Flo.of hS.size he.2) rfl⟩)⟩
    · intro f w1 hS hf
      generalize hA : putAll _ _ f = A
      have e45 : A.eval (.tmp 45) = f 1 := by rw [← hA]; kernel_rfl
      have e49 : A.eval (.tmp 49) = f 5 := by rw [← hA]; kernel_rfl
      have h1 : f 1 = _ := hf 1 (by decide)
      have h5 : f 5 = _ := hf 5 (by decide)
      rw [h1] at e45
      rw [h5] at e49
      exact ⟨_, rfl, rfl, fun K hK => wp_lit_su 32 24 elSum 2 _ rfl [sA, sQ] rfl (by decide) (by decide) (by simp only [List.map_toArray, List.map_cons, List.map_nil, e45, e49]; rfl) (hK _ _ (hS.alloc hS.size _) (Flo.of hS.size ((Below.refl w1.heap.size w1).alloc (Nat.le_refl _) _)) ⟨_, rfl, Cl.made w1 _ _⟩)⟩
    · intro f w1 hS hf
      generalize hA : putAll _ _ f = A
      have eb : A.eval (.tmp 1) = .pointer (some ⟨b1, 0, none⟩) := by rw [← hA]; kernel_rfl
      exact flow_val rfl rfl _ (load_box (.tmp 1) rfl b1 eb (sA, Value.slice (some ⟨g3, 0, none⟩) 1 1, tA) (HPA.out.keepB hS)) hS (Flo.refl _ _) rfl
    · intro f w1 hS hf
      generalize hA : putAll _ _ f = A
      have e51 : A.eval (.tmp 51) = f 7 := by rw [← hA]; kernel_rfl
      have h7 : f 7 = _ := hf 7 (by decide)
      rw [h7] at e51
      exact ⟨_, rfl, rfl, fun K hK => wp_lit_pc 33 28 elPc 1 _ rfl [(sA, Value.slice (some ⟨g3, 0, none⟩) 1 1, tA)] rfl (by decide) (by decide) (by simp only [List.map_toArray, List.map_cons, List.map_nil, e51]; rfl) (hK _ _ (hS.alloc hS.size _) (Flo.of hS.size ((Below.refl w1.heap.size w1).alloc (Nat.le_refl _) _)) ⟨_, rfl, Cl.made w1 _ _⟩)⟩
    · intro f w1 hS hf
      generalize hA : putAll _ _ f = A
      have e50 : A.eval (.tmp 50) = f 6 := by rw [← hA]; kernel_rfl
      have e52 : A.eval (.tmp 52) = f 8 := by rw [← hA]; kernel_rfl
      obtain ⟨g, hv, hc⟩ := hf 6 (by decide)
      obtain ⟨k, hu, hk⟩ := hf 8 (by decide)
      have HJ : Calls Tryd.prog 10 #[.slice (some ⟨g, 0, none⟩) 2 2, .slice (some ⟨k, 0, none⟩) 1 1] w1 fun e w' => (∃ v, e = .returned (.tuple #[v, .int .i64 ((([], 5) : List (BitVec 8) × Nat).2 : Nat)]) ∧ Bs w' v (([], 5) : List (BitVec 8) × Nat).1) ∧ Below w1.heap.size w1 w' := by
        have h := join_any [sA, sQ] [(sA, Value.slice (some ⟨g3, 0, none⟩) 1 1, tA)] (some ⟨g, 0, none⟩) (some ⟨k, 0, none⟩) 2 1 w1 (Nat.le_of_ble_eq_true rfl) (Nat.le_of_ble_eq_true rfl) hc.sees hk.sees (Pcb.cons (HA.out.keep hS) (Pcb.none _)) (by intro p hp; simp only [List.mem_cons, List.not_mem_nil, or_false] at hp; subst hp; exact Nat.le_of_ble_eq_true rfl) (HL.out.keep (HB.out.trans (hS.mono HB.out.size)) HSZ.out)
        rw [jn2 (Value.slice (some ⟨g3, 0, none⟩) 1 1)] at h
        exact h
      exact ⟨_, rfl, rfl, fun K hK => wp_callT 10 (.tmp 50) (.tmp 52) _ rfl _ _ (e50.trans hv) (e52.trans hu) (by kernel_rfl) HJ (fun e w' he => by
        obtain ⟨⟨v, rfl, _⟩, hb⟩ := he
        exact ⟨_, rfl, hK _ _ (hS.trans (hb.mono hS.size)) (Flo.of hS.size hb) ⟨v, rfl⟩⟩)⟩
    · intro f w1 hS hf
      generalize hA : putAll _ _ f = A
      have e53 : A.eval (.tmp 53) = f 9 := by rw [← hA]; kernel_rfl
      obtain ⟨u, hv⟩ := hf 9 (by decide)
      exact flow_val rfl rfl _ (run_move (.tmp 53) rfl (e53.trans hv)) hS (Flo.refl _ _) ⟨u, rfl⟩
    · intro f w1 hS hf
      generalize hA : putAll _ _ f = A
      have e43 : A.eval (.tmp 43) = f 10 := by rw [← hA]; kernel_rfl
      obtain ⟨u, hv⟩ := hf 10 (by decide)
      exact flow_val rfl rfl _ (run_extract (.tmp 43) 0 rfl (e43.trans hv) rfl) hS (Flo.refl _ _) trivial
    · intro f w1 hS hf
      generalize hA : putAll _ _ f = A
      have e43 : A.eval (.tmp 43) = f 10 := by rw [← hA]; kernel_rfl
      obtain ⟨u, hv⟩ := hf 10 (by decide)
      exact flow_val rfl rfl _ (run_extract (.tmp 43) 1 rfl (e43.trans hv) rfl) hS (Flo.refl _ _) rfl
    · intro f w1 hS hf
      generalize hA : putAll _ _ f = A
      exact flow_val rfl rfl _ (run_assign (.tmp 54) rfl rfl) hS (Flo.refl _ _) trivial
    · intro f w1 hS hf
      generalize hA : putAll _ _ f = A
      have e55 : A.eval (.tmp 55) = f 12 := by rw [← hA]; kernel_rfl
      have h12 : f 12 = _ := hf 12 (by decide)
      exact flow_val rfl rfl _ (run_assign (.tmp 55) rfl (e55.trans h12)) hS (Flo.refl _ _) rfl
  intro f wd11 hS hf
  have h14 : f 14 = _ := hf 14 (by decide)
  clear hf
  replace HA := Lib.hid (HA.out.keep hS)
  replace HX := Lib.hid (HX.out.keep hS)
  replace HPA := Lib.hid (HPA.out.keepB hS)
  replace HPX := Lib.hid (HPX.out.keepB hS)
  replace HvJ1 := Lib.hid (HvJ1.out.keep hS)
  replace HB := Lib.hid (HB.out.trans (hS.mono HB.out.size))
  clear hS
  simp only [slots5, putAll, h14, Act.put, List.setIfInBounds_toArray, List.set_cons_zero, List.set_cons_succ]
  clear h14
  go_upto_region 6 with fail
  have HSTd : Hid (Below wd11.heap.size wd11 wd11.drew) := Lib.hid (Below.refl _ _).drew
  replace HA := Lib.hid (HA.out.keep HSTd.out)
  replace HX := Lib.hid (HX.out.keep HSTd.out)
  replace HPA := Lib.hid (HPA.out.keepB HSTd.out)
  replace HPX := Lib.hid (HPX.out.keepB HSTd.out)
  replace HvJ1 := Lib.hid (HvJ1.out.keep HSTd.out)
  replace HB := Lib.hid (HB.out.trans (HSTd.out.mono HB.out.size))
  clear HSTd
  refine wp_region_flow slots6 wait5 (phi5 wd11.drew.heap.size b2 (sB, Value.slice (some ⟨g6, 0, none⟩) 1 1, tX) 11) (Flo wd11.drew.heap.size) (fun w' => Below wd11.drew.heap.size wd11.drew w') _ flo6 (by kernel_rfl) (by kernel_rfl) (Below.refl _ _) phi5_flo ?_ ?_
  · refine lt_s (lt_s (lt_s (lt_s (lt_s (lt_s (lt_s (lt_s (lt_s (lt_s (lt_s (lt_s (lt_s (lt_s (lt_s (lt_0) ?_) ?_) ?_) ?_) ?_) ?_) ?_) ?_) ?_) ?_) ?_) ?_) ?_) ?_) ?_
    · intro f w1 hS hf
      generalize hA : putAll _ _ f = A
      have eb : A.eval (.tmp 2) = .pointer (some ⟨b2, 0, none⟩) := by rw [← hA]; kernel_rfl
      exact flow_val rfl rfl _ (run_field0 (.tmp 2) rfl b2 eb) hS (Flo.refl _ _) rfl
    · intro f w1 hS hf
      generalize hA : putAll _ _ f = A
      have e57 : A.eval (.tmp 57) = f 0 := by rw [← hA]; kernel_rfl
      have h0 : f 0 = _ := hf 0 (by decide)
      exact flow_val rfl rfl _ (load_boxS (.tmp 57) rfl b2 (e57.trans h0) (sB, Value.slice (some ⟨g6, 0, none⟩) 1 1, tX) (HPX.out.keepB hS)) hS (Flo.refl _ _) rfl
    · intro f w1 hS hf
      generalize hA : putAll _ _ f = A
      exact ⟨_, rfl, rfl, fun K hK => wp_lit8 1 _ rfl ((tQ.map u8v).toArray) (by decide) (by decide) (by kernel_rfl) (hK _ _ (hS.alloc hS.size _) (Flo.of hS.size ((Below.refl w1.heap.size w1).alloc (Nat.le_refl _) _)) ⟨_, rfl, hS.size, Cl.made w1 _ _⟩)⟩
    · intro f w1 hS hf
      generalize hA : putAll _ _ f = A
      have e59 : A.eval (.tmp 59) = f 2 := by rw [← hA]; kernel_rfl
      obtain ⟨g, hv, hg, hc⟩ := hf 2 (by decide)
      exact ⟨_, rfl, rfl, fun K hK => wp_conv_at (.tmp 59) rfl g 1 1 _ (e59.trans hv) hc (hK _ _ (hS.trans (freeze_flo hg).1) (freeze_flo hg) ⟨g, rfl, hg, hc.flo (freeze_flo hg)⟩)⟩
    · intro f w1 hS hf
      generalize hA : putAll _ _ f = A
      have e60 : A.eval (.tmp 60) = f 3 := by rw [← hA]; kernel_rfl
      obtain ⟨g, hv, hg, hc⟩ := hf 3 (by decide)
      exact ⟨_, rfl, rfl, fun K hK => wp_one_bs (.tmp 60) rfl (some ⟨g, 0, none⟩) 1 1 (e60.trans hv) (hK _ _ (hS.alloc hS.size _) (Flo.of hS.size ((Below.refl w1.heap.size w1).alloc (Nat.le_refl _) _)) ⟨g, _, rfl, Cl.made w1 _ [_], hc.flo (Flo.of hS.size ((Below.refl w1.heap.size w1).alloc (Nat.le_refl _) _))⟩)⟩
    · intro f w1 hS hf
      generalize hA : putAll _ _ f = A
      have e61 : A.eval (.tmp 61) = f 4 := by rw [← hA]; kernel_rfl
      obtain ⟨g, k, hv, hk, hc⟩ := hf 4 (by decide)
      have HOF := of_at hk (hc.bs rfl) (Nat.le_of_ble_eq_true rfl) (HL.out.keep (HB.out.trans (hS.mono HB.out.size)) HSZ.out)
      exact ⟨_, rfl, rfl, fun K hK => wp_callO 9 (.tmp 61) _ rfl _ (e61.trans hv) (by kernel_rfl) HOF (fun e w' he => ⟨_, he.1, hK _ _ (hS.trans (he.2.mono hS.size)) (Flo.of hS.size he.2) rfl⟩)⟩
    · intro f w1 hS hf
      generalize hA : putAll _ _ f = A
      have e58 : A.eval (.tmp 58) = f 1 := by rw [← hA]; kernel_rfl
      have e62 : A.eval (.tmp 62) = f 5 := by rw [← hA]; kernel_rfl
      have h1 : f 1 = _ := hf 1 (by decide)
      have h5 : f 5 = _ := hf 5 (by decide)
      rw [h1] at e58
      rw [h5] at e62
      exact ⟨_, rfl, rfl, fun K hK => wp_lit_su 32 24 elSum 2 _ rfl [sB, sQ] rfl (by decide) (by decide) (by simp only [List.map_toArray, List.map_cons, List.map_nil, e58, e62]; rfl) (hK _ _ (hS.alloc hS.size _) (Flo.of hS.size ((Below.refl w1.heap.size w1).alloc (Nat.le_refl _) _)) ⟨_, rfl, Cl.made w1 _ _⟩)⟩
    · intro f w1 hS hf
      generalize hA : putAll _ _ f = A
      have eb : A.eval (.tmp 2) = .pointer (some ⟨b2, 0, none⟩) := by rw [← hA]; kernel_rfl
      exact flow_val rfl rfl _ (load_box (.tmp 2) rfl b2 eb (sB, Value.slice (some ⟨g6, 0, none⟩) 1 1, tX) (HPX.out.keepB hS)) hS (Flo.refl _ _) rfl
    · intro f w1 hS hf
      generalize hA : putAll _ _ f = A
      have e64 : A.eval (.tmp 64) = f 7 := by rw [← hA]; kernel_rfl
      have h7 : f 7 = _ := hf 7 (by decide)
      rw [h7] at e64
      exact ⟨_, rfl, rfl, fun K hK => wp_lit_pc 33 28 elPc 1 _ rfl [(sB, Value.slice (some ⟨g6, 0, none⟩) 1 1, tX)] rfl (by decide) (by decide) (by simp only [List.map_toArray, List.map_cons, List.map_nil, e64]; rfl) (hK _ _ (hS.alloc hS.size _) (Flo.of hS.size ((Below.refl w1.heap.size w1).alloc (Nat.le_refl _) _)) ⟨_, rfl, Cl.made w1 _ _⟩)⟩
    · intro f w1 hS hf
      generalize hA : putAll _ _ f = A
      have e63 : A.eval (.tmp 63) = f 6 := by rw [← hA]; kernel_rfl
      have e65 : A.eval (.tmp 65) = f 8 := by rw [← hA]; kernel_rfl
      obtain ⟨g, hv, hc⟩ := hf 6 (by decide)
      obtain ⟨k, hu, hk⟩ := hf 8 (by decide)
      have HJ : Calls Tryd.prog 10 #[.slice (some ⟨g, 0, none⟩) 2 2, .slice (some ⟨k, 0, none⟩) 1 1] w1 fun e w' => (∃ v, e = .returned (.tuple #[v, .int .i64 ((([], 11) : List (BitVec 8) × Nat).2 : Nat)]) ∧ Bs w' v (([], 11) : List (BitVec 8) × Nat).1) ∧ Below w1.heap.size w1 w' := by
        have h := join_any [sB, sQ] [(sB, Value.slice (some ⟨g6, 0, none⟩) 1 1, tX)] (some ⟨g, 0, none⟩) (some ⟨k, 0, none⟩) 2 1 w1 (Nat.le_of_ble_eq_true rfl) (Nat.le_of_ble_eq_true rfl) hc.sees hk.sees (Pcb.cons (HX.out.keep hS) (Pcb.none _)) (by intro p hp; simp only [List.mem_cons, List.not_mem_nil, or_false] at hp; subst hp; exact Nat.le_of_ble_eq_true rfl) (HL.out.keep (HB.out.trans (hS.mono HB.out.size)) HSZ.out)
        rw [jn3 (Value.slice (some ⟨g6, 0, none⟩) 1 1)] at h
        exact h
      exact ⟨_, rfl, rfl, fun K hK => wp_callT 10 (.tmp 63) (.tmp 65) _ rfl _ _ (e63.trans hv) (e65.trans hu) (by kernel_rfl) HJ (fun e w' he => by
        obtain ⟨⟨v, rfl, _⟩, hb⟩ := he
        exact ⟨_, rfl, hK _ _ (hS.trans (hb.mono hS.size)) (Flo.of hS.size hb) ⟨v, rfl⟩⟩)⟩
    · intro f w1 hS hf
      generalize hA : putAll _ _ f = A
      have e66 : A.eval (.tmp 66) = f 9 := by rw [← hA]; kernel_rfl
      obtain ⟨u, hv⟩ := hf 9 (by decide)
      exact flow_val rfl rfl _ (run_move (.tmp 66) rfl (e66.trans hv)) hS (Flo.refl _ _) ⟨u, rfl⟩
    · intro f w1 hS hf
      generalize hA : putAll _ _ f = A
      have e56 : A.eval (.tmp 56) = f 10 := by rw [← hA]; kernel_rfl
      obtain ⟨u, hv⟩ := hf 10 (by decide)
      exact flow_val rfl rfl _ (run_extract (.tmp 56) 0 rfl (e56.trans hv) rfl) hS (Flo.refl _ _) trivial
    · intro f w1 hS hf
      generalize hA : putAll _ _ f = A
      have e56 : A.eval (.tmp 56) = f 10 := by rw [← hA]; kernel_rfl
      obtain ⟨u, hv⟩ := hf 10 (by decide)
      exact flow_val rfl rfl _ (run_extract (.tmp 56) 1 rfl (e56.trans hv) rfl) hS (Flo.refl _ _) rfl
    · intro f w1 hS hf
      generalize hA : putAll _ _ f = A
      exact flow_val rfl rfl _ (run_assign (.tmp 67) rfl rfl) hS (Flo.refl _ _) trivial
    · intro f w1 hS hf
      generalize hA : putAll _ _ f = A
      have e68 : A.eval (.tmp 68) = f 12 := by rw [← hA]; kernel_rfl
      have h12 : f 12 = _ := hf 12 (by decide)
      exact flow_val rfl rfl _ (run_assign (.tmp 68) rfl (e68.trans h12)) hS (Flo.refl _ _) rfl
  intro f wd12 hS hf
  have h14 : f 14 = _ := hf 14 (by decide)
  clear hf
  replace HA := Lib.hid (HA.out.keep hS)
  replace HX := Lib.hid (HX.out.keep hS)
  replace HPA := Lib.hid (HPA.out.keepB hS)
  replace HPX := Lib.hid (HPX.out.keepB hS)
  replace HvJ1 := Lib.hid (HvJ1.out.keep hS)
  replace HB := Lib.hid (HB.out.trans (hS.mono HB.out.size))
  clear hS
  simp only [slots6, putAll, h14, Act.put, List.setIfInBounds_toArray, List.set_cons_zero, List.set_cons_succ]
  clear h14
  go_upto_region 7 with fail
  refine wp_region_lit ?_
  try simp only [Act.put, List.setIfInBounds_toArray, List.set_cons_zero, List.set_cons_succ]
  refine lp_pure (v := ?_) (by kernel_rfl) ?_ ?_
  rotate_left
  · go_simp; try with_reducible rfl
  try simp only [Act.put, List.setIfInBounds_toArray, List.set_cons_zero, List.set_cons_succ]
  refine lp_pure (by kernel_rfl) (load_boxS (.tmp 70) rfl b1 rfl (sA, Value.slice (some ⟨g3, 0, none⟩) 1 1, tA) HPA.out) ?_
  try simp only [Act.put, List.setIfInBounds_toArray, List.set_cons_zero, List.set_cons_succ]
  refine lp_step (by kernel_rfl) (fun K hK => wp_lit_su 32 24 elSum 1 _ rfl [sA] rfl (by decide) (by decide) (by kernel_rfl) (hK _ _ ?_))
  try simp only [Act.put, List.setIfInBounds_toArray, List.set_cons_zero, List.set_cons_succ]
  have HST : Hid (Below wd12.heap.size wd12 (wd12.alloc (.cells (rowU [sA]).toArray 24))) := Lib.hid ((Below.refl _ _).alloc (Nat.le_refl _) _)
  have HSU := Lib.hid (made_row wd12 24 (rowU [sA]))
  replace HA := Lib.hid (HA.out.keep HST.out)
  replace HX := Lib.hid (HX.out.keep HST.out)
  replace HPA := Lib.hid (HPA.out.keepB HST.out)
  replace HPX := Lib.hid (HPX.out.keepB HST.out)
  replace HvJ1 := Lib.hid (HvJ1.out.keep HST.out)
  replace HB := Lib.hid (HB.out.trans (HST.out.mono HB.out.size))
  clear HST
  generalize wd12.alloc (.cells (rowU [sA]).toArray 24) = w13 at *
  generalize wd12.heap.size = g13 at *
  refine lp_pure (v := ?_) (by kernel_rfl) ?_ ?_
  rotate_left
  · go_simp; try with_reducible rfl
  try simp only [Act.put, List.setIfInBounds_toArray, List.set_cons_zero, List.set_cons_succ]
  refine lp_pure (by kernel_rfl) (load_boxS (.tmp 73) rfl b1 rfl (sA, Value.slice (some ⟨g3, 0, none⟩) 1 1, tA) HPA.out) ?_
  try simp only [Act.put, List.setIfInBounds_toArray, List.set_cons_zero, List.set_cons_succ]
  refine lp_step (by kernel_rfl) (fun K hK => wp_lit8 1 _ rfl #[Value.int .u8 122] (by decide) (by decide) (by kernel_rfl) (hK _ _ ?_))
  try simp only [Act.put, List.setIfInBounds_toArray, List.set_cons_zero, List.set_cons_succ]
  refine lp_step (by kernel_rfl) (fun K hK => wp_convk (.tmp 75) rfl #[Value.int .u8 122] 1 1 rfl (hK _ _ ?_))
  try simp only [Act.put, List.setIfInBounds_toArray, List.set_cons_zero, List.set_cons_succ]
  have HST : Hid (Below w13.heap.size w13 (w13.alloc (.cells #[Value.int .u8 122] 5 (#[Value.int .u8 122].size, #[Value.int .u8 122].size + 1)))) := Lib.hid ((Below.refl _ _).alloc (Nat.le_refl _) _)
  have HZ : Hid (Bs (w13.alloc (.cells #[Value.int .u8 122] 5 (#[Value.int .u8 122].size, #[Value.int .u8 122].size + 1))) (.slice (some ⟨w13.heap.size, 0, none⟩) 1 1) tZ) := Lib.hid (bs_litk w13 tZ #[Value.int .u8 122] _ (by kernel_rfl) 1 rfl)
  replace HA := Lib.hid (HA.out.keep HST.out)
  replace HX := Lib.hid (HX.out.keep HST.out)
  replace HPA := Lib.hid (HPA.out.keepB HST.out)
  replace HPX := Lib.hid (HPX.out.keepB HST.out)
  replace HvJ1 := Lib.hid (HvJ1.out.keep HST.out)
  replace HSU := Lib.hid (HSU.out.keepS HST.out)
  replace HB := Lib.hid (HB.out.trans (HST.out.mono HB.out.size))
  clear HST
  generalize w13.alloc (.cells #[Value.int .u8 122] 5 (#[Value.int .u8 122].size, #[Value.int .u8 122].size + 1)) = w14 at *
  generalize w13.heap.size = g14 at *
  refine lp_pure (by kernel_rfl) (build_cells 28 _ rfl (encP (sA, .slice (some ⟨g14, 0, none⟩) 1 1, tZ)).toArray [(0, .agg (encU sA).toArray), (1, .slice (some ⟨g14, 0, none⟩) 1 1)] (by kernel_rfl) (built_pc sA (some ⟨g14, 0, none⟩) 1 1 tZ)) ?_
  try simp only [Act.put, List.setIfInBounds_toArray, List.set_cons_zero, List.set_cons_succ]
  refine lp_pure (by kernel_rfl) (load_box (.tmp 1) rfl b1 rfl (sA, Value.slice (some ⟨g3, 0, none⟩) 1 1, tA) HPA.out) ?_
  try simp only [Act.put, List.setIfInBounds_toArray, List.set_cons_zero, List.set_cons_succ]
  refine lp_step (by kernel_rfl) (fun K hK => wp_lit_pc 33 28 elPc 2 _ rfl [(sA, Value.slice (some ⟨g14, 0, none⟩) 1 1, tZ), (sA, Value.slice (some ⟨g3, 0, none⟩) 1 1, tA)] rfl (by decide) (by decide) (by kernel_rfl) (hK _ _ ?_))
  try simp only [Act.put, List.setIfInBounds_toArray, List.set_cons_zero, List.set_cons_succ]
  have HST : Hid (Below w14.heap.size w14 (w14.alloc (.cells (rowP [(sA, Value.slice (some ⟨g14, 0, none⟩) 1 1, tZ), (sA, Value.slice (some ⟨g3, 0, none⟩) 1 1, tA)]).toArray 28))) := Lib.hid ((Below.refl _ _).alloc (Nat.le_refl _) _)
  have HPR := Lib.hid (made_row w14 28 (rowP [(sA, Value.slice (some ⟨g14, 0, none⟩) 1 1, tZ), (sA, Value.slice (some ⟨g3, 0, none⟩) 1 1, tA)]))
  replace HA := Lib.hid (HA.out.keep HST.out)
  replace HX := Lib.hid (HX.out.keep HST.out)
  replace HPA := Lib.hid (HPA.out.keepB HST.out)
  replace HPX := Lib.hid (HPX.out.keepB HST.out)
  replace HvJ1 := Lib.hid (HvJ1.out.keep HST.out)
  replace HSU := Lib.hid (HSU.out.keepS HST.out)
  replace HZ := Lib.hid (HZ.out.keep HST.out)
  replace HB := Lib.hid (HB.out.trans (HST.out.mono HB.out.size))
  clear HST
  generalize w14.alloc (.cells (rowP [(sA, Value.slice (some ⟨g14, 0, none⟩) 1 1, tZ), (sA, Value.slice (some ⟨g3, 0, none⟩) 1 1, tA)]).toArray 28) = w15 at *
  generalize w14.heap.size = g15 at *
  have HJ : Hid (Calls Tryd.prog 10 #[.slice (some ⟨g13, 0, none⟩) 1 1, .slice (some ⟨g15, 0, none⟩) 2 2] w15 fun e w' => (∃ v, e = .returned (.tuple #[v, .int .i64 ((([], 11) : List (BitVec 8) × Nat).2 : Nat)]) ∧ Bs w' v (([], 11) : List (BitVec 8) × Nat).1) ∧ Below w15.heap.size w15 w') := Lib.hid (by
    have h := join_any [sA] [(sA, Value.slice (some ⟨g14, 0, none⟩) 1 1, tZ), (sA, Value.slice (some ⟨g3, 0, none⟩) 1 1, tA)] (some ⟨g13, 0, none⟩) (some ⟨g15, 0, none⟩) 1 2 w15 (Nat.le_of_ble_eq_true rfl) (Nat.le_of_ble_eq_true rfl) HSU.out HPR.out (Pcb.cons HZ.out (Pcb.cons HA.out (Pcb.none _))) (by intro p hp; first | (exact absurd hp (List.not_mem_nil)) | (simp only [List.mem_cons, List.not_mem_nil, or_false] at hp; first | (rcases hp with rfl | rfl <;> exact Nat.le_of_ble_eq_true rfl) | (subst hp; exact Nat.le_of_ble_eq_true rfl))) (HL.out.keep HB.out HSZ.out)
    rw [jn4 (Value.slice (some ⟨g14, 0, none⟩) 1 1) (Value.slice (some ⟨g3, 0, none⟩) 1 1)] at h
    exact h)
  refine lp_step (by kernel_rfl) (fun K hK => ?_)
  go_wp2_with fail
  refine Calls.mono (HJ.out) ?_
  rintro e w16 ⟨⟨vJ4, rfl, hbs⟩, hb⟩
  have HST := Lib.hid hb
  have HvJ4 := Lib.hid hbs
  clear hb hbs HJ
  replace HA := Lib.hid (HA.out.keep HST.out)
  replace HX := Lib.hid (HX.out.keep HST.out)
  replace HPA := Lib.hid (HPA.out.keepB HST.out)
  replace HPX := Lib.hid (HPX.out.keepB HST.out)
  replace HvJ1 := Lib.hid (HvJ1.out.keep HST.out)
  replace HZ := Lib.hid (HZ.out.keep HST.out)
  replace HB := Lib.hid (HB.out.trans (HST.out.mono HB.out.size))
  clear HST
  refine hK _ _ ?_
  clear hK
  try simp only [Act.put, List.setIfInBounds_toArray, List.set_cons_zero, List.set_cons_succ]
  clear HSU HPR HZ HvJ4
  refine lp_pure (v := ?_) (by kernel_rfl) ?_ ?_
  rotate_left
  · go_simp; try with_reducible rfl
  try simp only [Act.put, List.setIfInBounds_toArray, List.set_cons_zero, List.set_cons_succ]
  refine lp_pure (v := ?_) (by kernel_rfl) ?_ ?_
  rotate_left
  · go_simp; try with_reducible rfl
  try simp only [Act.put, List.setIfInBounds_toArray, List.set_cons_zero, List.set_cons_succ]
  refine lp_pure (v := ?_) (by kernel_rfl) ?_ ?_
  rotate_left
  · go_simp; try with_reducible rfl
  try simp only [Act.put, List.setIfInBounds_toArray, List.set_cons_zero, List.set_cons_succ]
  refine lp_pure (v := ?_) (by kernel_rfl) ?_ ?_
  rotate_left
  · go_simp; try with_reducible rfl
  try simp only [Act.put, List.setIfInBounds_toArray, List.set_cons_zero, List.set_cons_succ]
  refine lp_pure (v := ?_) (by kernel_rfl) ?_ ?_
  rotate_left
  · go_simp; try with_reducible rfl
  try simp only [Act.put, List.setIfInBounds_toArray, List.set_cons_zero, List.set_cons_succ]
  refine wpList_nil ?_
  go_upto_region 8 with fail
  refine wp_region_lit ?_
  try simp only [Act.put, List.setIfInBounds_toArray, List.set_cons_zero, List.set_cons_succ]
  have HJ : Hid (Calls Tryd.prog 10 #[.slice none 0 0, .slice none 0 0] w16 fun e w' => (∃ v, e = .returned (.tuple #[v, .int .i64 ((([], 0) : List (BitVec 8) × Nat).2 : Nat)]) ∧ Bs w' v (([], 0) : List (BitVec 8) × Nat).1) ∧ Below w16.heap.size w16 w') := Lib.hid (by
    have h := join_any [] [] none none 0 0 w16 (Nat.le_of_ble_eq_true rfl) (Nat.le_of_ble_eq_true rfl) (Sees.nil _ _ _) (Sees.nil _ _ _) (Pcb.none _) (by intro p hp; first | (exact absurd hp (List.not_mem_nil)) | (simp only [List.mem_cons, List.not_mem_nil, or_false] at hp; first | (rcases hp with rfl | rfl <;> exact Nat.le_of_ble_eq_true rfl) | (subst hp; exact Nat.le_of_ble_eq_true rfl))) (HL.out.keep HB.out HSZ.out)
    rw [joinA_nil [] []] at h
    exact h)
  refine lp_step (by kernel_rfl) (fun K hK => ?_)
  go_wp2_with fail
  refine Calls.mono (HJ.out) ?_
  rintro e w17 ⟨⟨vJ5, rfl, hbs⟩, hb⟩
  have HST := Lib.hid hb
  have HvJ5 := Lib.hid hbs
  clear hb hbs HJ
  replace HA := Lib.hid (HA.out.keep HST.out)
  replace HX := Lib.hid (HX.out.keep HST.out)
  replace HPA := Lib.hid (HPA.out.keepB HST.out)
  replace HPX := Lib.hid (HPX.out.keepB HST.out)
  replace HvJ1 := Lib.hid (HvJ1.out.keep HST.out)
  replace HB := Lib.hid (HB.out.trans (HST.out.mono HB.out.size))
  clear HST
  refine hK _ _ ?_
  clear hK
  try simp only [Act.put, List.setIfInBounds_toArray, List.set_cons_zero, List.set_cons_succ]
  refine lp_pure (v := ?_) (by kernel_rfl) ?_ ?_
  rotate_left
  · go_simp; try with_reducible rfl
  try simp only [Act.put, List.setIfInBounds_toArray, List.set_cons_zero, List.set_cons_succ]
  refine lp_pure (v := ?_) (by kernel_rfl) ?_ ?_
  rotate_left
  · go_simp; try with_reducible rfl
  try simp only [Act.put, List.setIfInBounds_toArray, List.set_cons_zero, List.set_cons_succ]
  refine lp_pure (v := ?_) (by kernel_rfl) ?_ ?_
  rotate_left
  · go_simp; try with_reducible rfl
  try simp only [Act.put, List.setIfInBounds_toArray, List.set_cons_zero, List.set_cons_succ]
  refine lp_pure (v := ?_) (by kernel_rfl) ?_ ?_
  rotate_left
  · go_simp; try with_reducible rfl
  try simp only [Act.put, List.setIfInBounds_toArray, List.set_cons_zero, List.set_cons_succ]
  refine lp_pure (v := ?_) (by kernel_rfl) ?_ ?_
  rotate_left
  · go_simp; try with_reducible rfl
  try simp only [Act.put, List.setIfInBounds_toArray, List.set_cons_zero, List.set_cons_succ]
  refine wpList_nil ?_
  go_upto_region 9 with fail
  refine wp_region_lit ?_
  try simp only [Act.put, List.setIfInBounds_toArray, List.set_cons_zero, List.set_cons_succ]
  have HOF := Lib.hid (of_none w17 (HL.out.keep HB.out HSZ.out))
  refine lp_step (by kernel_rfl) (fun K hK => ?_)
  go_wp2_with fail
  refine Calls.mono (HOF.out) ?_
  rintro e w18 ⟨rfl, hb⟩
  have HST := Lib.hid hb
  clear hb HOF
  replace HA := Lib.hid (HA.out.keep HST.out)
  replace HX := Lib.hid (HX.out.keep HST.out)
  replace HPA := Lib.hid (HPA.out.keepB HST.out)
  replace HPX := Lib.hid (HPX.out.keepB HST.out)
  replace HvJ1 := Lib.hid (HvJ1.out.keep HST.out)
  replace HvJ5 := Lib.hid (HvJ5.out.keep HST.out)
  replace HB := Lib.hid (HB.out.trans (HST.out.mono HB.out.size))
  clear HST
  refine hK _ _ ?_
  clear hK
  try simp only [Act.put, List.setIfInBounds_toArray, List.set_cons_zero, List.set_cons_succ]
  refine lp_pure (by kernel_rfl) (build_cells 28 _ rfl (encP (shaU [], .slice none 0 0, [])).toArray [(0, .agg (encU (shaU [])).toArray)] (by kernel_rfl) (built_pc0 (shaU []))) ?_
  try simp only [Act.put, List.setIfInBounds_toArray, List.set_cons_zero, List.set_cons_succ]
  refine wp_copy_pc rfl rfl rfl (.tmp 13) (.tmp 88) rfl (shaU [], Value.slice none 0 0, []) rfl rfl rfl ?_
  intro w19 hpe hb
  have HST := Lib.hid hb
  have HPE := Lib.hid hpe
  replace HA := Lib.hid (HA.out.keep HST.out)
  replace HX := Lib.hid (HX.out.keep HST.out)
  replace HPA := Lib.hid (HPA.out.keepB HST.out)
  replace HPX := Lib.hid (HPX.out.keepB HST.out)
  replace HvJ1 := Lib.hid (HvJ1.out.keep HST.out)
  replace HvJ5 := Lib.hid (HvJ5.out.keep HST.out)
  replace HB := Lib.hid (HB.out.trans (HST.out.mono HB.out.size))
  clear HST hb hpe
  generalize w18.heap.size = b3 at *
  try simp only [Act.put, List.setIfInBounds_toArray, List.set_cons_zero, List.set_cons_succ]
  refine wpList_nil ?_
  go_upto_region 10 with fail
  have HSTd : Hid (Below w19.heap.size w19 w19.drew) := Lib.hid (Below.refl _ _).drew
  replace HA := Lib.hid (HA.out.keep HSTd.out)
  replace HX := Lib.hid (HX.out.keep HSTd.out)
  replace HPA := Lib.hid (HPA.out.keepB HSTd.out)
  replace HPX := Lib.hid (HPX.out.keepB HSTd.out)
  replace HvJ1 := Lib.hid (HvJ1.out.keep HSTd.out)
  replace HvJ5 := Lib.hid (HvJ5.out.keep HSTd.out)
  replace HPE := Lib.hid (HPE.out.keepB HSTd.out)
  replace HB := Lib.hid (HB.out.trans (HSTd.out.mono HB.out.size))
  clear HSTd
  refine wp_region_flowL slots10 wait10 (phi10 w19.drew.heap.size) Ext (fun w' => Below w19.drew.heap.size w19.drew w') _ 6 rfl (lt_s (lt_s (lt_s (lt_s (lt_s (lt_s lt_0 (by decide)) (by decide)) (by decide)) (by decide)) (by decide)) (by decide)) flo10 (by kernel_rfl) (by kernel_rfl) (Below.refl _ _) phi10_ext ?_ ?_
  · refine lt_s (lt_s (lt_s (lt_s (lt_s (lt_s (lt_0) ?_) ?_) ?_) ?_) ?_) ?_
    · intro f w1 hS hf
      generalize hA : putAll _ _ f = A
      exact ⟨_, rfl, rfl, fun K hK => wp_z129 rfl (hK _ _ (hS.alloc hS.size _) ((Below.refl w1.heap.size w1).alloc (Nat.le_refl _) _) ⟨_, rfl, Has.made' _ _ _ _ rfl⟩)⟩
    · intro f w1 hS hf
      generalize hA : putAll _ _ f = A
      have e89 : A.eval (.tmp 89) = f 0 := by rw [← hA]; kernel_rfl
      obtain ⟨g, hv, hc⟩ := hf 0 (by decide)
      exact ⟨_, rfl, rfl, fun K hK => wp_one_bs (.tmp 89) rfl (some ⟨g, 0, none⟩) 129 129 (e89.trans hv) (hK _ _ (hS.alloc hS.size _) ((Below.refl w1.heap.size w1).alloc (Nat.le_refl _) _) ⟨g, _, rfl, Has.made' _ _ _ _ rfl, hc.keepB ((Below.refl w1.heap.size w1).alloc (Nat.le_refl _) _)⟩)⟩
    · intro f w1 hS hf
      generalize hA : putAll _ _ f = A
      have e90 : A.eval (.tmp 90) = f 1 := by rw [← hA]; kernel_rfl
      obtain ⟨g, k, hv, hk, hc⟩ := hf 1 (by decide)
      have HOF := of_at hk.cl (hc.cl.bs (by kernel_rfl)) (show z129.length ≤ 1000000 from Nat.le_of_ble_eq_true (by kernel_rfl)) (HL.out.keep (HB.out.trans (hS.mono HB.out.size)) HSZ.out)
      exact ⟨_, rfl, rfl, fun K hK => wp_callO 9 (.tmp 90) _ rfl _ (e90.trans hv) (by kernel_rfl) HOF (fun e w' he => ⟨_, he.1, hK _ _ (hS.trans (he.2.mono hS.size)) he.2 rfl⟩)⟩
    · intro f w1 hS hf
      generalize hA : putAll _ _ f = A
      exact ⟨_, rfl, rfl, fun K hK => wp_z129 rfl (hK _ _ (hS.alloc hS.size _) ((Below.refl w1.heap.size w1).alloc (Nat.le_refl _) _) ⟨_, rfl, Has.made' _ _ _ _ rfl⟩)⟩
    · intro f w1 hS hf
      generalize hA : putAll _ _ f = A
      have e91 : A.eval (.tmp 91) = f 2 := by rw [← hA]; kernel_rfl
      have e92 : A.eval (.tmp 92) = f 3 := by rw [← hA]; kernel_rfl
      have h2 : f 2 = _ := hf 2 (by decide)
      obtain ⟨g, hv, hc⟩ := hf 3 (by decide)
      rw [h2] at e91
      rw [hv] at e92
      exact flow_val rfl rfl _ (build_cells 28 _ rfl (encP (shaU z129, Value.slice (some ⟨g, 0, none⟩) 129 129, z129)).toArray [(0, .agg (encU (shaU z129)).toArray), (1, .slice (some ⟨g, 0, none⟩) 129 129)] (by simp only [List.map_toArray, List.map_cons, List.map_nil, e91, e92]) (built_pc (shaU z129) (some ⟨g, 0, none⟩) 129 129 z129)) hS (Below.refl _ _) ⟨g, rfl, hc⟩
    · intro f w1 hS hf
      generalize hA : putAll _ _ f = A
      exact ⟨_, rfl, rfl, fun K hK => wp_alloc_pc rfl (hK _ _ (hS.alloc hS.size _) ((Below.refl w1.heap.size w1).alloc (Nat.le_refl _) _) ⟨_, rfl, hS.size, made_z w1⟩)⟩
  intro f w1 hS hf
  obtain ⟨g4, hv, hc⟩ := hf 4 (by decide)
  obtain ⟨b4, hb, hg, hz⟩ := hf 5 (by decide)
  have hne := hc.apartT hz (by decide)
  have hst := below_row (Below.refl w19.drew.heap.size w1) hg (encP (shaU z129, Value.slice (some ⟨g4, 0, none⟩) 129 129, z129)).toArray
  have hone : (encP (shaU z129, Value.slice (some ⟨g4, 0, none⟩) 129 129, z129)).toArray.all (·.oneCell') = true := encP_all (p := (shaU z129, Value.slice (some ⟨g4, 0, none⟩) 129 129, z129)) (show (Value.slice (some ⟨g4, 0, none⟩) 129 129).oneCell' = true from rfl)
  have hsz : (Tryd.prog.info? 28).map (·.size) = some (encP (shaU z129, Value.slice (some ⟨g4, 0, none⟩) 129 129, z129)).toArray.size := by rw [szPc, List.size_toArray, encP_len]
  have hsz2 : zPc.toList.toArray.size = (encP (shaU z129, Value.slice (some ⟨g4, 0, none⟩) 129 129, z129)).toArray.size := by rw [List.size_toArray, List.size_toArray, encP_len]; exact zPc_size
  generalize hA : putAll _ _ f = A
  have e14 : A.eval (.tmp 14) = f 5 := by rw [← hA]; kernel_rfl
  have e93 : A.eval (.tmp 93) = f 4 := by rw [← hA]; kernel_rfl
  refine wpOp_step (show _ = some _ from rfl) (by kernel_rfl) (fun K hK => ?_)
  refine wp_store_row 28 (.tmp 14) (.tmp 93) rfl b4 (encP (shaU z129, Value.slice (some ⟨g4, 0, none⟩) 129 129, z129)).toArray (e14.trans hb) (e93.trans hv) 28 zPc.toList.toArray hz hsz hsz2 hone (hK _ _ ⟨hS.trans hst, ?_⟩)
  subst hA
  clear hone hsz hsz2 e14 e93
  have HPB : Hid (Has (w1.setRow b4 (encP (shaU z129, Value.slice (some ⟨g4, 0, none⟩) 129 129, z129)).toArray) b4 28 (encP (shaU z129, Value.slice (some ⟨g4, 0, none⟩) 129 129, z129))) := Lib.hid (hz.rowl _)
  have HZB : Hid (Bs (w1.setRow b4 (encP (shaU z129, Value.slice (some ⟨g4, 0, none⟩) 129 129, z129)).toArray) (.slice (some ⟨g4, 0, none⟩) 129 129) z129) := Lib.hid (Cl.bs ⟨(0, 0), (setRow_other w1 b4 g4 _ hne).trans hc⟩ (by kernel_rfl))
  have hS2 := hS.trans hst
  replace HA := Lib.hid (HA.out.keep hS2)
  replace HX := Lib.hid (HX.out.keep hS2)
  replace HPA := Lib.hid (HPA.out.keepB hS2)
  replace HPX := Lib.hid (HPX.out.keepB hS2)
  replace HvJ1 := Lib.hid (HvJ1.out.keep hS2)
  replace HvJ5 := Lib.hid (HvJ5.out.keep hS2)
  replace HPE := Lib.hid (HPE.out.keepB hS2)
  replace HB := Lib.hid (HB.out.trans (hS2.mono HB.out.size))
  clear hS2 hS hst hc hz hf hne
  simp only [slots10, putAll, hv, hb, Act.put, List.setIfInBounds_toArray, List.set_cons_zero, List.set_cons_succ]
  clear hv hb hg
  generalize w1.setRow b4 (encP (shaU z129, Value.slice (some ⟨g4, 0, none⟩) 129 129, z129)).toArray = w20 at *
  obtain ⟨qj, cj, hj, _, _, hsj⟩ := HvJ1.out
  have hj' : vJ1 = .slice qj 2 cj := hj
  subst hj'
  have HSTR : Hid ((convert 26 9 (.slice qj 2 cj)).run Tryd.prog w20 = .ok (.string { data := #[97, 97] }) w20) := Lib.hid (by
    have h := str_run [97#8, 97#8] qj cj _ w20 hsj
    rw [strAA] at h
    exact h)
  clear hj hsj HvJ1
  obtain ⟨q5, c5, hj, _, _, _⟩ := HvJ5.out
  have hj' : vJ5 = .slice q5 0 c5 := hj
  subst hj'
  clear hj HvJ5
  go_upto_region 11 with fail
  refine wp_region_lit ?_
  try simp only [Act.put, List.setIfInBounds_toArray, List.set_cons_zero, List.set_cons_succ]
  refine lp_pure (v := ?_) (by kernel_rfl) ?_ ?_
  rotate_left
  · go_simp; try with_reducible rfl
  try simp only [Act.put, List.setIfInBounds_toArray, List.set_cons_zero, List.set_cons_succ]
  refine lp_pure (v := ?_) (by kernel_rfl) ?_ ?_
  rotate_left
  · go_simp; try with_reducible rfl
  try simp only [Act.put, List.setIfInBounds_toArray, List.set_cons_zero, List.set_cons_succ]
  refine lp_pure (v := ?_) (by kernel_rfl) ?_ ?_
  rotate_left
  · go_simp; try with_reducible rfl
  try simp only [Act.put, List.setIfInBounds_toArray, List.set_cons_zero, List.set_cons_succ]
  refine lp_pure (v := ?_) (by kernel_rfl) ?_ ?_
  rotate_left
  · go_simp; try with_reducible rfl
  try simp only [Act.put, List.setIfInBounds_toArray, List.set_cons_zero, List.set_cons_succ]
  refine lp_pure (v := ?_) (by kernel_rfl) ?_ ?_
  rotate_left
  · have hst := HSTR.out; go_simp; try with_reducible rfl
  try simp only [Act.put, List.setIfInBounds_toArray, List.set_cons_zero, List.set_cons_succ]
  clear HSTR
  refine lp_pure (v := ?_) (by kernel_rfl) ?_ ?_
  rotate_left
  · go_simp; try with_reducible rfl
  try simp only [Act.put, List.setIfInBounds_toArray, List.set_cons_zero, List.set_cons_succ]
  refine lp_pure (v := ?_) (by kernel_rfl) ?_ ?_
  rotate_left
  · go_simp; try with_reducible rfl
  try simp only [Act.put, List.setIfInBounds_toArray, List.set_cons_zero, List.set_cons_succ]
  refine lp_pure (v := ?_) (by kernel_rfl) ?_ ?_
  rotate_left
  · go_simp; try with_reducible rfl
  try simp only [Act.put, List.setIfInBounds_toArray, List.set_cons_zero, List.set_cons_succ]
  refine lp_pure (v := ?_) (by kernel_rfl) ?_ ?_
  rotate_left
  · go_simp; try with_reducible rfl
  try simp only [Act.put, List.setIfInBounds_toArray, List.set_cons_zero, List.set_cons_succ]
  refine lp_pure (v := ?_) (by kernel_rfl) ?_ ?_
  rotate_left
  · go_simp; try with_reducible rfl
  try simp only [Act.put, List.setIfInBounds_toArray, List.set_cons_zero, List.set_cons_succ]
  refine lp_pure (v := ?_) (by kernel_rfl) ?_ ?_
  rotate_left
  · go_simp; try with_reducible rfl
  try simp only [Act.put, List.setIfInBounds_toArray, List.set_cons_zero, List.set_cons_succ]
  refine lp_pure (v := ?_) (by kernel_rfl) ?_ ?_
  rotate_left
  · go_simp; try with_reducible rfl
  try simp only [Act.put, List.setIfInBounds_toArray, List.set_cons_zero, List.set_cons_succ]
  refine lp_pure (v := ?_) (by kernel_rfl) ?_ ?_
  rotate_left
  · go_simp; try with_reducible rfl
  try simp only [Act.put, List.setIfInBounds_toArray, List.set_cons_zero, List.set_cons_succ]
  refine lp_pure (v := ?_) (by kernel_rfl) ?_ ?_
  rotate_left
  · go_simp; try with_reducible rfl
  try simp only [Act.put, List.setIfInBounds_toArray, List.set_cons_zero, List.set_cons_succ]
  refine lp_pure (v := ?_) (by kernel_rfl) ?_ ?_
  rotate_left
  · go_simp; try with_reducible rfl
  try simp only [Act.put, List.setIfInBounds_toArray, List.set_cons_zero, List.set_cons_succ]
  refine lp_pure (v := ?_) (by kernel_rfl) ?_ ?_
  rotate_left
  · go_simp; try with_reducible rfl
  try simp only [Act.put, List.setIfInBounds_toArray, List.set_cons_zero, List.set_cons_succ]
  refine lp_pure (v := ?_) (by kernel_rfl) ?_ ?_
  rotate_left
  · go_simp; try with_reducible rfl
  try simp only [Act.put, List.setIfInBounds_toArray, List.set_cons_zero, List.set_cons_succ]
  refine lp_pure (v := ?_) (by kernel_rfl) ?_ ?_
  rotate_left
  · go_simp; try with_reducible rfl
  try simp only [Act.put, List.setIfInBounds_toArray, List.set_cons_zero, List.set_cons_succ]
  refine lp_pure (v := ?_) (by kernel_rfl) ?_ ?_
  rotate_left
  · go_simp; try with_reducible rfl
  try simp only [Act.put, List.setIfInBounds_toArray, List.set_cons_zero, List.set_cons_succ]
  refine lp_pure (v := ?_) (by kernel_rfl) ?_ ?_
  rotate_left
  · go_simp; try with_reducible rfl
  try simp only [Act.put, List.setIfInBounds_toArray, List.set_cons_zero, List.set_cons_succ]
  refine lp_pure (v := ?_) (by kernel_rfl) ?_ ?_
  rotate_left
  · go_simp; try with_reducible rfl
  try simp only [Act.put, List.setIfInBounds_toArray, List.set_cons_zero, List.set_cons_succ]
  refine lp_pure (v := ?_) (by kernel_rfl) ?_ ?_
  rotate_left
  · go_simp; try with_reducible rfl
  try simp only [Act.put, List.setIfInBounds_toArray, List.set_cons_zero, List.set_cons_succ]
  refine lp_pure (v := ?_) (by kernel_rfl) ?_ ?_
  rotate_left
  · go_simp; try with_reducible rfl
  try simp only [Act.put, List.setIfInBounds_toArray, List.set_cons_zero, List.set_cons_succ]
  refine lp_pure (v := ?_) (by kernel_rfl) ?_ ?_
  rotate_left
  · go_simp; try with_reducible rfl
  try simp only [Act.put, List.setIfInBounds_toArray, List.set_cons_zero, List.set_cons_succ]
  refine lp_pure (v := ?_) (by kernel_rfl) ?_ ?_
  rotate_left
  · go_simp; try with_reducible rfl
  try simp only [Act.put, List.setIfInBounds_toArray, List.set_cons_zero, List.set_cons_succ]
  refine lp_pure (v := ?_) (by kernel_rfl) ?_ ?_
  rotate_left
  · go_simp; try with_reducible rfl
  try simp only [Act.put, List.setIfInBounds_toArray, List.set_cons_zero, List.set_cons_succ]
  refine lp_pure (v := ?_) (by kernel_rfl) ?_ ?_
  rotate_left
  · go_simp; try with_reducible rfl
  try simp only [Act.put, List.setIfInBounds_toArray, List.set_cons_zero, List.set_cons_succ]
  refine lp_pure (v := ?_) (by kernel_rfl) ?_ ?_
  rotate_left
  · go_simp; try with_reducible rfl
  try simp only [Act.put, List.setIfInBounds_toArray, List.set_cons_zero, List.set_cons_succ]
  refine lp_pure (v := ?_) (by kernel_rfl) ?_ ?_
  rotate_left
  · go_simp; try with_reducible rfl
  try simp only [Act.put, List.setIfInBounds_toArray, List.set_cons_zero, List.set_cons_succ]
  refine lp_pure (by kernel_rfl) (load_box (.tmp 13) rfl b3 rfl (shaU [], Value.slice none 0 0, []) HPE.out) ?_
  try simp only [Act.put, List.setIfInBounds_toArray, List.set_cons_zero, List.set_cons_succ]
  have HG : Hid (Calls Tryd.prog 11 #[.agg (encP (shaU [], Value.slice none 0 0, [])).toArray] w20 fun e w' => e = .returned (.bool false) ∧ Below w20.heap.size w20 w') := Lib.hid (by
    have h := pgood_any (shaU [], Value.slice none 0 0, []) w20 (Bs.nil _) (Nat.le_of_ble_eq_true (by kernel_rfl)) (HL.out.keep HB.out HSZ.out)
    rw [show goodPc (shaU [], Value.slice none 0 0, []) = false from (gd_0 _ _)] at h
    exact h)
  refine lp_step (by kernel_rfl) (fun K hK => ?_)
  go_wp2_with fail
  refine Calls.mono (HG.out) ?_
  rintro e w21 ⟨rfl, hb⟩
  have HST := Lib.hid hb
  clear hb HG
  replace HA := Lib.hid (HA.out.keep HST.out)
  replace HX := Lib.hid (HX.out.keep HST.out)
  replace HPA := Lib.hid (HPA.out.keepB HST.out)
  replace HPX := Lib.hid (HPX.out.keepB HST.out)
  replace HPE := Lib.hid (HPE.out.keepB HST.out)
  replace HPB := Lib.hid (HPB.out.keepB HST.out)
  replace HZB := Lib.hid (HZB.out.keep HST.out)
  replace HB := Lib.hid (HB.out.trans (HST.out.mono HB.out.size))
  clear HST
  refine hK _ _ ?_
  clear hK
  try simp only [Act.put, List.setIfInBounds_toArray, List.set_cons_zero, List.set_cons_succ]
  refine lp_pure (v := ?_) (by kernel_rfl) ?_ ?_
  rotate_left
  · go_simp; try with_reducible rfl
  try simp only [Act.put, List.setIfInBounds_toArray, List.set_cons_zero, List.set_cons_succ]
  refine lp_pure (v := ?_) (by kernel_rfl) ?_ ?_
  rotate_left
  · go_simp; try with_reducible rfl
  try simp only [Act.put, List.setIfInBounds_toArray, List.set_cons_zero, List.set_cons_succ]
  refine lp_pure (v := ?_) (by kernel_rfl) ?_ ?_
  rotate_left
  · go_simp; try with_reducible rfl
  try simp only [Act.put, List.setIfInBounds_toArray, List.set_cons_zero, List.set_cons_succ]
  refine lp_pure (by kernel_rfl) (load_box (.tmp 14) rfl b4 rfl (shaU z129, Value.slice (some ⟨g4, 0, none⟩) 129 129, z129) HPB.out) ?_
  try simp only [Act.put, List.setIfInBounds_toArray, List.set_cons_zero, List.set_cons_succ]
  have HG : Hid (Calls Tryd.prog 11 #[.agg (encP (shaU z129, Value.slice (some ⟨g4, 0, none⟩) 129 129, z129)).toArray] w21 fun e w' => e = .returned (.bool false) ∧ Below w21.heap.size w21 w') := Lib.hid (by
    have h := pgood_any (shaU z129, Value.slice (some ⟨g4, 0, none⟩) 129 129, z129) w21 HZB.out (Nat.le_of_ble_eq_true (by kernel_rfl)) (HL.out.keep HB.out HSZ.out)
    rw [show goodPc (shaU z129, Value.slice (some ⟨g4, 0, none⟩) 129 129, z129) = false from (gd_129 _ _)] at h
    exact h)
  refine lp_step (by kernel_rfl) (fun K hK => ?_)
  go_wp2_with fail
  refine Calls.mono (HG.out) ?_
  rintro e w22 ⟨rfl, hb⟩
  have HST := Lib.hid hb
  clear hb HG
  replace HA := Lib.hid (HA.out.keep HST.out)
  replace HX := Lib.hid (HX.out.keep HST.out)
  replace HPA := Lib.hid (HPA.out.keepB HST.out)
  replace HPX := Lib.hid (HPX.out.keepB HST.out)
  replace HPE := Lib.hid (HPE.out.keepB HST.out)
  replace HPB := Lib.hid (HPB.out.keepB HST.out)
  replace HZB := Lib.hid (HZB.out.keep HST.out)
  replace HB := Lib.hid (HB.out.trans (HST.out.mono HB.out.size))
  clear HST
  refine hK _ _ ?_
  clear hK
  try simp only [Act.put, List.setIfInBounds_toArray, List.set_cons_zero, List.set_cons_succ]
  refine lp_pure (v := ?_) (by kernel_rfl) ?_ ?_
  rotate_left
  · go_simp; try with_reducible rfl
  try simp only [Act.put, List.setIfInBounds_toArray, List.set_cons_zero, List.set_cons_succ]
  refine lp_pure (v := ?_) (by kernel_rfl) ?_ ?_
  rotate_left
  · go_simp; try with_reducible rfl
  try simp only [Act.put, List.setIfInBounds_toArray, List.set_cons_zero, List.set_cons_succ]
  refine lp_pure (v := ?_) (by kernel_rfl) ?_ ?_
  rotate_left
  · go_simp; try with_reducible rfl
  try simp only [Act.put, List.setIfInBounds_toArray, List.set_cons_zero, List.set_cons_succ]
  refine lp_pure (by kernel_rfl) (load_box (.tmp 2) rfl b2 rfl (sB, Value.slice (some ⟨g6, 0, none⟩) 1 1, tX) HPX.out) ?_
  try simp only [Act.put, List.setIfInBounds_toArray, List.set_cons_zero, List.set_cons_succ]
  have HG : Hid (Calls Tryd.prog 11 #[.agg (encP (sB, Value.slice (some ⟨g6, 0, none⟩) 1 1, tX)).toArray] w22 fun e w' => e = .returned (.bool false) ∧ Below w22.heap.size w22 w') := Lib.hid (by
    have h := pgood_any (sB, Value.slice (some ⟨g6, 0, none⟩) 1 1, tX) w22 HX.out (Nat.le_of_ble_eq_true (by kernel_rfl)) (HL.out.keep HB.out HSZ.out)
    rw [show goodPc (sB, Value.slice (some ⟨g6, 0, none⟩) 1 1, tX) = false from (gd_X _)] at h
    exact h)
  refine lp_step (by kernel_rfl) (fun K hK => ?_)
  go_wp2_with fail
  refine Calls.mono (HG.out) ?_
  rintro e w23 ⟨rfl, hb⟩
  have HST := Lib.hid hb
  clear hb HG
  replace HA := Lib.hid (HA.out.keep HST.out)
  replace HX := Lib.hid (HX.out.keep HST.out)
  replace HPA := Lib.hid (HPA.out.keepB HST.out)
  replace HPX := Lib.hid (HPX.out.keepB HST.out)
  replace HPE := Lib.hid (HPE.out.keepB HST.out)
  replace HPB := Lib.hid (HPB.out.keepB HST.out)
  replace HZB := Lib.hid (HZB.out.keep HST.out)
  replace HB := Lib.hid (HB.out.trans (HST.out.mono HB.out.size))
  clear HST
  refine hK _ _ ?_
  clear hK
  try simp only [Act.put, List.setIfInBounds_toArray, List.set_cons_zero, List.set_cons_succ]
  refine lp_pure (v := ?_) (by kernel_rfl) ?_ ?_
  rotate_left
  · go_simp; try with_reducible rfl
  try simp only [Act.put, List.setIfInBounds_toArray, List.set_cons_zero, List.set_cons_succ]
  refine lp_pure (v := ?_) (by kernel_rfl) ?_ ?_
  rotate_left
  · go_simp; try with_reducible rfl
  try simp only [Act.put, List.setIfInBounds_toArray, List.set_cons_zero, List.set_cons_succ]
  refine lp_pure (v := ?_) (by kernel_rfl) ?_ ?_
  rotate_left
  · go_simp; try with_reducible rfl
  try simp only [Act.put, List.setIfInBounds_toArray, List.set_cons_zero, List.set_cons_succ]
  refine lp_pure (by kernel_rfl) (load_box (.tmp 1) rfl b1 rfl (sA, Value.slice (some ⟨g3, 0, none⟩) 1 1, tA) HPA.out) ?_
  try simp only [Act.put, List.setIfInBounds_toArray, List.set_cons_zero, List.set_cons_succ]
  have HG : Hid (Calls Tryd.prog 11 #[.agg (encP (sA, Value.slice (some ⟨g3, 0, none⟩) 1 1, tA)).toArray] w23 fun e w' => e = .returned (.bool true) ∧ Below w23.heap.size w23 w') := Lib.hid (by
    have h := pgood_any (sA, Value.slice (some ⟨g3, 0, none⟩) 1 1, tA) w23 HA.out (Nat.le_of_ble_eq_true (by kernel_rfl)) (HL.out.keep HB.out HSZ.out)
    rw [show goodPc (sA, Value.slice (some ⟨g3, 0, none⟩) 1 1, tA) = true from (gd_A _)] at h
    exact h)
  refine lp_step (by kernel_rfl) (fun K hK => ?_)
  go_wp2_with fail
  refine Calls.mono (HG.out) ?_
  rintro e w24 ⟨rfl, hb⟩
  have HST := Lib.hid hb
  clear hb HG
  replace HA := Lib.hid (HA.out.keep HST.out)
  replace HX := Lib.hid (HX.out.keep HST.out)
  replace HPA := Lib.hid (HPA.out.keepB HST.out)
  replace HPX := Lib.hid (HPX.out.keepB HST.out)
  replace HPE := Lib.hid (HPE.out.keepB HST.out)
  replace HPB := Lib.hid (HPB.out.keepB HST.out)
  replace HZB := Lib.hid (HZB.out.keep HST.out)
  replace HB := Lib.hid (HB.out.trans (HST.out.mono HB.out.size))
  clear HST
  refine hK _ _ ?_
  clear hK
  try simp only [Act.put, List.setIfInBounds_toArray, List.set_cons_zero, List.set_cons_succ]
  refine lp_pure (v := ?_) (by kernel_rfl) ?_ ?_
  rotate_left
  · go_simp; try with_reducible rfl
  try simp only [Act.put, List.setIfInBounds_toArray, List.set_cons_zero, List.set_cons_succ]
  refine lp_pure (v := ?_) (by kernel_rfl) ?_ ?_
  rotate_left
  · go_simp; try with_reducible rfl
  try simp only [Act.put, List.setIfInBounds_toArray, List.set_cons_zero, List.set_cons_succ]
  clear HPE HPB HZB HPX HX HPA HA
  have HC := Lib.hid (ccut_any [] none 0 w24 (Nat.le_refl _) (fun _ => rfl) (Nat.le_of_ble_eq_true rfl) (Sees.nil _ _ _) (HL.out.keep HB.out HSZ.out))
  refine lp_step (by kernel_rfl) (fun K hK => ?_)
  go_wp2_with fail
  refine Calls.mono (HC.out) ?_
  rintro e w25 ⟨⟨v, LP, rfl, ⟨qv, cv, hv, _, _, _⟩, _, hk⟩, hb⟩
  have HST := Lib.hid hb
  have h0 : LP.length = 0 := by
    have h := congrArg List.length hk
    rw [List.length_map, show cutP [] = [] by kernel_rfl] at h
    exact h
  have hv' : v = .slice qv 0 cv := hv.trans (congrArg (fun n => Value.slice qv n cv) h0)
  subst hv'
  clear hb HC hk hv h0
  replace HB := Lib.hid (HB.out.trans (HST.out.mono HB.out.size))
  clear HST
  refine hK _ _ ?_
  clear hK
  try simp only [Act.put, List.setIfInBounds_toArray, List.set_cons_zero, List.set_cons_succ]
  generalize qv = qv25 at *
  generalize cv = cv25 at *
  refine lp_pure (v := ?_) (by kernel_rfl) ?_ ?_
  rotate_left
  · go_simp; try with_reducible rfl
  try simp only [Act.put, List.setIfInBounds_toArray, List.set_cons_zero, List.set_cons_succ]
  refine lp_pure (v := ?_) (by kernel_rfl) ?_ ?_
  rotate_left
  · go_simp; try with_reducible rfl
  try simp only [Act.put, List.setIfInBounds_toArray, List.set_cons_zero, List.set_cons_succ]
  refine lp_pure (v := ?_) (by kernel_rfl) ?_ ?_
  rotate_left
  · go_simp; try with_reducible rfl
  try simp only [Act.put, List.setIfInBounds_toArray, List.set_cons_zero, List.set_cons_succ]
  refine lp_pure (v := ?_) (by kernel_rfl) ?_ ?_
  rotate_left
  · go_simp; try with_reducible rfl
  try simp only [Act.put, List.setIfInBounds_toArray, List.set_cons_zero, List.set_cons_succ]
  refine lp_step (by kernel_rfl) (fun K hK => wp_lit8 1 _ rfl #[Value.int .u8 97] (by decide) (by decide) (by kernel_rfl) (hK _ _ ?_))
  try simp only [Act.put, List.setIfInBounds_toArray, List.set_cons_zero, List.set_cons_succ]
  refine lp_step (by kernel_rfl) (fun K hK => wp_convk (.tmp 147) rfl #[Value.int .u8 97] 1 1 rfl (hK _ _ ?_))
  try simp only [Act.put, List.setIfInBounds_toArray, List.set_cons_zero, List.set_cons_succ]
  have HST : Hid (Below w25.heap.size w25 (w25.alloc (.cells #[Value.int .u8 97] 5 (#[Value.int .u8 97].size, #[Value.int .u8 97].size + 1)))) := Lib.hid ((Below.refl _ _).alloc (Nat.le_refl _) _)
  have HA1 : Hid (Bs (w25.alloc (.cells #[Value.int .u8 97] 5 (#[Value.int .u8 97].size, #[Value.int .u8 97].size + 1))) (.slice (some ⟨w25.heap.size, 0, none⟩) 1 1) tA) := Lib.hid (bs_litk w25 tA #[Value.int .u8 97] _ (by kernel_rfl) 1 rfl)
  replace HB := Lib.hid (HB.out.trans (HST.out.mono HB.out.size))
  clear HST
  generalize w25.alloc (.cells #[Value.int .u8 97] 5 (#[Value.int .u8 97].size, #[Value.int .u8 97].size + 1)) = w26 at *
  generalize w25.heap.size = g26 at *
  refine lp_step (by kernel_rfl) (fun K hK => wp_lit8 1 _ rfl #[Value.int .u8 97] (by decide) (by decide) (by kernel_rfl) (hK _ _ ?_))
  try simp only [Act.put, List.setIfInBounds_toArray, List.set_cons_zero, List.set_cons_succ]
  refine lp_step (by kernel_rfl) (fun K hK => wp_convk (.tmp 149) rfl #[Value.int .u8 97] 1 1 rfl (hK _ _ ?_))
  try simp only [Act.put, List.setIfInBounds_toArray, List.set_cons_zero, List.set_cons_succ]
  have HST : Hid (Below w26.heap.size w26 (w26.alloc (.cells #[Value.int .u8 97] 5 (#[Value.int .u8 97].size, #[Value.int .u8 97].size + 1)))) := Lib.hid ((Below.refl _ _).alloc (Nat.le_refl _) _)
  have HA2 : Hid (Bs (w26.alloc (.cells #[Value.int .u8 97] 5 (#[Value.int .u8 97].size, #[Value.int .u8 97].size + 1))) (.slice (some ⟨w26.heap.size, 0, none⟩) 1 1) tA) := Lib.hid (bs_litk w26 tA #[Value.int .u8 97] _ (by kernel_rfl) 1 rfl)
  replace HA1 := Lib.hid (HA1.out.keep HST.out)
  replace HB := Lib.hid (HB.out.trans (HST.out.mono HB.out.size))
  clear HST
  generalize w26.alloc (.cells #[Value.int .u8 97] 5 (#[Value.int .u8 97].size, #[Value.int .u8 97].size + 1)) = w27 at *
  generalize w26.heap.size = g27 at *
  refine lp_step (by kernel_rfl) (fun K hK => wp_lit8 1 _ rfl #[Value.int .u8 98] (by decide) (by decide) (by kernel_rfl) (hK _ _ ?_))
  try simp only [Act.put, List.setIfInBounds_toArray, List.set_cons_zero, List.set_cons_succ]
  refine lp_step (by kernel_rfl) (fun K hK => wp_convk (.tmp 151) rfl #[Value.int .u8 98] 1 1 rfl (hK _ _ ?_))
  try simp only [Act.put, List.setIfInBounds_toArray, List.set_cons_zero, List.set_cons_succ]
  have HST : Hid (Below w27.heap.size w27 (w27.alloc (.cells #[Value.int .u8 98] 5 (#[Value.int .u8 98].size, #[Value.int .u8 98].size + 1)))) := Lib.hid ((Below.refl _ _).alloc (Nat.le_refl _) _)
  have HA3 : Hid (Bs (w27.alloc (.cells #[Value.int .u8 98] 5 (#[Value.int .u8 98].size, #[Value.int .u8 98].size + 1))) (.slice (some ⟨w27.heap.size, 0, none⟩) 1 1) tB) := Lib.hid (bs_litk w27 tB #[Value.int .u8 98] _ (by kernel_rfl) 1 rfl)
  replace HA1 := Lib.hid (HA1.out.keep HST.out)
  replace HA2 := Lib.hid (HA2.out.keep HST.out)
  replace HB := Lib.hid (HB.out.trans (HST.out.mono HB.out.size))
  clear HST
  generalize w27.alloc (.cells #[Value.int .u8 98] 5 (#[Value.int .u8 98].size, #[Value.int .u8 98].size + 1)) = w28 at *
  generalize w27.heap.size = g28 at *
  have HSR := Lib.hid (made_row w28 26 [.slice (some ⟨g26, 0, none⟩) 1 1, .slice (some ⟨g27, 0, none⟩) 1 1, .slice (some ⟨g28, 0, none⟩) 1 1])
  refine lp_step (by kernel_rfl) (fun K hK => wp_three_bs (.tmp 148) (.tmp 150) (.tmp 152) rfl (some ⟨g26, 0, none⟩) 1 1 (some ⟨g27, 0, none⟩) 1 1 (some ⟨g28, 0, none⟩) 1 1 rfl rfl rfl (hK _ _ ?_))
  try simp only [Act.put, List.setIfInBounds_toArray, List.set_cons_zero, List.set_cons_succ]
  have HST : Hid (Below w28.heap.size w28 (w28.alloc (.cells [.slice (some ⟨g26, 0, none⟩) 1 1, .slice (some ⟨g27, 0, none⟩) 1 1, .slice (some ⟨g28, 0, none⟩) 1 1].toArray 26))) := Lib.hid ((Below.refl _ _).alloc (Nat.le_refl _) _)
  replace HA1 := Lib.hid (HA1.out.keep HST.out)
  replace HA2 := Lib.hid (HA2.out.keep HST.out)
  replace HA3 := Lib.hid (HA3.out.keep HST.out)
  replace HB := Lib.hid (HB.out.trans (HST.out.mono HB.out.size))
  clear HST
  generalize w28.alloc (.cells [.slice (some ⟨g26, 0, none⟩) 1 1, .slice (some ⟨g27, 0, none⟩) 1 1, .slice (some ⟨g28, 0, none⟩) 1 1].toArray 26) = w29 at *
  generalize w28.heap.size = g29 at *
  have HC : Hid (Calls Tryd.prog 13 #[.slice (some ⟨g29, 0, none⟩) 3 3] w29 fun e w' => (∃ v, e = .returned v ∧ OwnU w' w29.heap.size 24 v (srt (namesA [tA, tA, tB]))) ∧ Below w29.heap.size w29 w') := Lib.hid (all_any [tA, tA, tB] (some ⟨g29, 0, none⟩) 3 w29 (Ps.three HSR.out HA1.out HA2.out HA3.out) (Nat.le_of_ble_eq_true rfl) (by intro x hx; simp only [List.mem_cons, List.not_mem_nil, or_false] at hx; rcases hx with rfl | rfl | rfl <;> exact Nat.le_of_ble_eq_true rfl) (HL.out.keep HB.out HSZ.out))
  refine lp_step (by kernel_rfl) (fun K hK => ?_)
  go_wp2_with fail
  refine Calls.mono (HC.out) ?_
  rintro e w30 ⟨⟨v, rfl, ho⟩, hb⟩
  have HST := Lib.hid hb
  obtain ⟨qv, cv, hv, _, _, hsv⟩ := ho.us
  have hv' : v = .slice qv 2 cv := hv.trans (congrArg (fun n => Value.slice qv n cv) al_3)
  subst hv'
  clear hb HC ho hv hsv
  replace HA1 := Lib.hid (HA1.out.keep HST.out)
  replace HA2 := Lib.hid (HA2.out.keep HST.out)
  replace HA3 := Lib.hid (HA3.out.keep HST.out)
  replace HB := Lib.hid (HB.out.trans (HST.out.mono HB.out.size))
  clear HST
  refine hK _ _ ?_
  clear hK
  try simp only [Act.put, List.setIfInBounds_toArray, List.set_cons_zero, List.set_cons_succ]
  generalize qv = qv30 at *
  generalize cv = cv30 at *
  clear HA1 HA2 HA3 HSR
  refine lp_pure (v := ?_) (by kernel_rfl) ?_ ?_
  rotate_left
  · go_simp; try with_reducible rfl
  try simp only [Act.put, List.setIfInBounds_toArray, List.set_cons_zero, List.set_cons_succ]
  refine lp_pure (v := ?_) (by kernel_rfl) ?_ ?_
  rotate_left
  · go_simp; try with_reducible rfl
  try simp only [Act.put, List.setIfInBounds_toArray, List.set_cons_zero, List.set_cons_succ]
  refine lp_pure (v := ?_) (by kernel_rfl) ?_ ?_
  rotate_left
  · go_simp; try with_reducible rfl
  try simp only [Act.put, List.setIfInBounds_toArray, List.set_cons_zero, List.set_cons_succ]
  refine lp_pure (v := ?_) (by kernel_rfl) ?_ ?_
  rotate_left
  · go_simp; try with_reducible rfl
  try simp only [Act.put, List.setIfInBounds_toArray, List.set_cons_zero, List.set_cons_succ]
  refine lp_step (by kernel_rfl) (fun K hK => wp_lit8 1 _ rfl #[Value.int .u8 97] (by decide) (by decide) (by kernel_rfl) (hK _ _ ?_))
  try simp only [Act.put, List.setIfInBounds_toArray, List.set_cons_zero, List.set_cons_succ]
  refine lp_step (by kernel_rfl) (fun K hK => wp_convk (.tmp 159) rfl #[Value.int .u8 97] 1 1 rfl (hK _ _ ?_))
  try simp only [Act.put, List.setIfInBounds_toArray, List.set_cons_zero, List.set_cons_succ]
  have HST : Hid (Below w30.heap.size w30 (w30.alloc (.cells #[Value.int .u8 97] 5 (#[Value.int .u8 97].size, #[Value.int .u8 97].size + 1)))) := Lib.hid ((Below.refl _ _).alloc (Nat.le_refl _) _)
  have HA1 : Hid (Bs (w30.alloc (.cells #[Value.int .u8 97] 5 (#[Value.int .u8 97].size, #[Value.int .u8 97].size + 1))) (.slice (some ⟨w30.heap.size, 0, none⟩) 1 1) tA) := Lib.hid (bs_litk w30 tA #[Value.int .u8 97] _ (by kernel_rfl) 1 rfl)
  replace HB := Lib.hid (HB.out.trans (HST.out.mono HB.out.size))
  clear HST
  generalize w30.alloc (.cells #[Value.int .u8 97] 5 (#[Value.int .u8 97].size, #[Value.int .u8 97].size + 1)) = w31 at *
  generalize w30.heap.size = g31 at *
  refine lp_step (by kernel_rfl) (fun K hK => wp_lit8 1 _ rfl #[Value.int .u8 98] (by decide) (by decide) (by kernel_rfl) (hK _ _ ?_))
  try simp only [Act.put, List.setIfInBounds_toArray, List.set_cons_zero, List.set_cons_succ]
  refine lp_step (by kernel_rfl) (fun K hK => wp_convk (.tmp 161) rfl #[Value.int .u8 98] 1 1 rfl (hK _ _ ?_))
  try simp only [Act.put, List.setIfInBounds_toArray, List.set_cons_zero, List.set_cons_succ]
  have HST : Hid (Below w31.heap.size w31 (w31.alloc (.cells #[Value.int .u8 98] 5 (#[Value.int .u8 98].size, #[Value.int .u8 98].size + 1)))) := Lib.hid ((Below.refl _ _).alloc (Nat.le_refl _) _)
  have HA3 : Hid (Bs (w31.alloc (.cells #[Value.int .u8 98] 5 (#[Value.int .u8 98].size, #[Value.int .u8 98].size + 1))) (.slice (some ⟨w31.heap.size, 0, none⟩) 1 1) tB) := Lib.hid (bs_litk w31 tB #[Value.int .u8 98] _ (by kernel_rfl) 1 rfl)
  replace HA1 := Lib.hid (HA1.out.keep HST.out)
  replace HB := Lib.hid (HB.out.trans (HST.out.mono HB.out.size))
  clear HST
  generalize w31.alloc (.cells #[Value.int .u8 98] 5 (#[Value.int .u8 98].size, #[Value.int .u8 98].size + 1)) = w32 at *
  generalize w31.heap.size = g32 at *
  have HSR := Lib.hid (made_row w32 26 [.slice (some ⟨g31, 0, none⟩) 1 1, .slice (some ⟨g32, 0, none⟩) 1 1])
  refine lp_step (by kernel_rfl) (fun K hK => wp_two_bs (.tmp 160) (.tmp 162) rfl (.slice (some ⟨g31, 0, none⟩) 1 1) (.slice (some ⟨g32, 0, none⟩) 1 1) rfl rfl (some ⟨g31, 0, none⟩) 1 1 rfl (some ⟨g32, 0, none⟩) 1 1 rfl (hK _ _ ?_))
  try simp only [Act.put, List.setIfInBounds_toArray, List.set_cons_zero, List.set_cons_succ]
  have HST : Hid (Below w32.heap.size w32 (w32.alloc (.cells [.slice (some ⟨g31, 0, none⟩) 1 1, .slice (some ⟨g32, 0, none⟩) 1 1].toArray 26))) := Lib.hid ((Below.refl _ _).alloc (Nat.le_refl _) _)
  replace HA1 := Lib.hid (HA1.out.keep HST.out)
  replace HA3 := Lib.hid (HA3.out.keep HST.out)
  replace HB := Lib.hid (HB.out.trans (HST.out.mono HB.out.size))
  clear HST
  generalize w32.alloc (.cells [.slice (some ⟨g31, 0, none⟩) 1 1, .slice (some ⟨g32, 0, none⟩) 1 1].toArray 26) = w33 at *
  generalize w32.heap.size = g33 at *
  obtain ⟨n2, hn2⟩ : ∃ n, (srt (namesA [tA, tB])).length = n := ⟨_, rfl⟩
  have HC : Hid (Calls Tryd.prog 13 #[.slice (some ⟨g33, 0, none⟩) 2 2] w33 fun e w' => (∃ v, e = .returned v ∧ OwnU w' w33.heap.size 24 v (srt (namesA [tA, tB]))) ∧ Below w33.heap.size w33 w') := Lib.hid (all_any [tA, tB] (some ⟨g33, 0, none⟩) 2 w33 (Ps.two HSR.out HA1.out HA3.out) (Nat.le_of_ble_eq_true rfl) (by intro x hx; simp only [List.mem_cons, List.not_mem_nil, or_false] at hx; rcases hx with rfl | rfl <;> exact Nat.le_of_ble_eq_true rfl) (HL.out.keep HB.out HSZ.out))
  refine lp_step (by kernel_rfl) (fun K hK => ?_)
  go_wp2_with fail
  refine Calls.mono (HC.out) ?_
  rintro e w34 ⟨⟨v, rfl, ho⟩, hb⟩
  have HST := Lib.hid hb
  obtain ⟨qv, cv, hv, _, _, hsv⟩ := ho.us
  have hv' : v = .slice qv n2 cv := hv.trans (congrArg (fun n => Value.slice qv n cv) hn2)
  subst hv'
  have HSV := Lib.hid hsv
  clear hb HC ho hv hsv
  replace HA1 := Lib.hid (HA1.out.keep HST.out)
  replace HA3 := Lib.hid (HA3.out.keep HST.out)
  replace HB := Lib.hid (HB.out.trans (HST.out.mono HB.out.size))
  clear HST
  refine hK _ _ ?_
  clear hK
  try simp only [Act.put, List.setIfInBounds_toArray, List.set_cons_zero, List.set_cons_succ]
  generalize qv = qv34 at *
  generalize cv = cv34 at *
  clear HA1 HA3 HSR
  have HG : Hid (Calls Tryd.prog 14 #[.slice qv34 n2 cv34] w34 fun e w' => e = .returned (.bool true) ∧ Below w34.heap.size w34 w') := Lib.hid (by
    have h := good_any (srt (namesA [tA, tB])) qv34 cv34 len_AB w34 HSV.out
    rw [al_2, hn2] at h
    exact h)
  clear HSV hn2
  refine lp_step (by kernel_rfl) (fun K hK => ?_)
  go_wp2_with fail
  refine Calls.mono (HG.out) ?_
  rintro e w35 ⟨rfl, hb⟩
  have HST := Lib.hid hb
  clear hb HG
  replace HB := Lib.hid (HB.out.trans (HST.out.mono HB.out.size))
  clear HST
  refine hK _ _ ?_
  clear hK
  try simp only [Act.put, List.setIfInBounds_toArray, List.set_cons_zero, List.set_cons_succ]
  refine lp_pure (v := ?_) (by kernel_rfl) ?_ ?_
  rotate_left
  · go_simp; try with_reducible rfl
  try simp only [Act.put, List.setIfInBounds_toArray, List.set_cons_zero, List.set_cons_succ]
  refine lp_pure (v := ?_) (by kernel_rfl) ?_ ?_
  rotate_left
  · go_simp; try with_reducible rfl
  try simp only [Act.put, List.setIfInBounds_toArray, List.set_cons_zero, List.set_cons_succ]
  have HC : Hid (Calls Tryd.prog 13 #[.slice none 0 0] w35 fun e w' => (∃ v, e = .returned v ∧ OwnU w' w35.heap.size 24 v (srt (namesA []))) ∧ Below w35.heap.size w35 w') := Lib.hid (all_any [] none 0 w35 (Ps.nil _) (Nat.le_of_ble_eq_true rfl) (fun x hx => absurd hx (List.not_mem_nil)) (HL.out.keep HB.out HSZ.out))
  refine lp_step (by kernel_rfl) (fun K hK => ?_)
  go_wp2_with fail
  refine Calls.mono (HC.out) ?_
  rintro e w36 ⟨⟨v, rfl, ho⟩, hb⟩
  have HST := Lib.hid hb
  obtain ⟨qv, cv, hv, _, _, hsv⟩ := ho.us
  have hv' : v = .slice qv 0 cv := hv.trans (congrArg (fun n => Value.slice qv n cv) (congrArg List.length al_0))
  subst hv'
  clear hb HC ho hv hsv
  replace HB := Lib.hid (HB.out.trans (HST.out.mono HB.out.size))
  clear HST
  refine hK _ _ ?_
  clear hK
  try simp only [Act.put, List.setIfInBounds_toArray, List.set_cons_zero, List.set_cons_succ]
  generalize qv = qv36 at *
  generalize cv = cv36 at *
  refine lp_pure (v := ?_) (by kernel_rfl) ?_ ?_
  rotate_left
  · go_simp; try with_reducible rfl
  try simp only [Act.put, List.setIfInBounds_toArray, List.set_cons_zero, List.set_cons_succ]
  refine lp_pure (v := ?_) (by kernel_rfl) ?_ ?_
  rotate_left
  · go_simp; try with_reducible rfl
  try simp only [Act.put, List.setIfInBounds_toArray, List.set_cons_zero, List.set_cons_succ]
  refine lp_pure (v := ?_) (by kernel_rfl) ?_ ?_
  rotate_left
  · go_simp; try with_reducible rfl
  try simp only [Act.put, List.setIfInBounds_toArray, List.set_cons_zero, List.set_cons_succ]
  refine lp_pure (v := ?_) (by kernel_rfl) ?_ ?_
  rotate_left
  · go_simp; try with_reducible rfl
  try simp only [Act.put, List.setIfInBounds_toArray, List.set_cons_zero]
  refine wpList_nil ?_
  go_wp2_with fail
  go_ret
  exact ⟨rfl, HB.out⟩
end Go.Proofs.YthpledfjopbchaaDoor
namespace Go.Proofs.YthpledfjopbchaaDoor
open Go.ChangeShapes Go.WideShapes Go.ChangeAt Go.RowKit
set_option maxRecDepth 100000 in
theorem chunkKnown_lifted (os : Os) (started : os.Started) (H : Type) (enc : TypeId × Value → H) :
    ReturnsInHanded {} Tryd.checked os 3 .any (fun w args => (Rows.chunkKnownSpec.pre enc Tryd.prog Tryd.f3 [] false w args ∧ laidMetH Tryd.prog laidVars w) ∧ sizedMet enc Tryd.prog Tryd.f3 (OpenSpec.ofChange Rows.chunkKnownSpec) false w args)
      (Rows.chunkKnownSpec.post enc Tryd.prog Tryd.f3 false true false false) := by
  refine returnsInHanded_of_change_and (C := Tryd.checked) (X := fun w _ => laidMetH Tryd.prog laidVars w) (fun _ _ _ hh h => h.of_heap hh) own started (by kernel_rfl) Tryd.func3
    (ChangeSpec.witness_shaped (enc := enc) (C := Tryd.checked) (os := os) (X := fun w _ => laidMetH Tryd.prog laidVars w) false (World.doorLaid Tryd.prog 400 os) #[] 8 rfl (World.shaped_of_RefB (by kernel_rfl) (by kernel_rfl)) (by kernel_rfl) (by kernel_rfl) (by kernel_rfl) (door_met os _)) ?_
  intro W base args ds gs before hval0 hW _ _ hL _
  have hval : ∀ (j : Nat) t v, Tryd.f3.params[j]? = some t → args[j]? = some v → Value.okWide Tryd.prog W .any base t v := hval0
  have hW' := hW
  obtain ⟨p, q, hA0, hV, rfl, hfz, hnd⟩ := hW
  have hA : DataW.TrodAll enc Tryd.prog W 0 (fun _ => true) true Tryd.f3.params.toList args.toList ds p := hA0
  rw [Tryd.params3] at hA hval
  obtain ⟨h1, rfl, rfl⟩ := trodAll_nil hA
  obtain rfl : args = #[] := by cases args; simp_all
  obtain ⟨rfl, rfl⟩ := trodVars_none hV
  clear hA0 hval0
  refine (chunkKnown_any W (of_laid hL)).mono fun e W' ⟨he, bel⟩ => ?_
  subst he
  exact ⟨_, rfl, _, _, _, [], _, [], hW', trodAll_mk1 (shut_bool Tryd.underlying4 _), trodAll_mk0, rfl, bel.frame _, fun h => by cases h⟩
theorem chunkKnown_row : Rows.ChunkKnownSaid :=
  OpenClaim.holds_of_wide 3 Tryd.f3 rfl rfl rfl rfl rfl rfl rfl ⟨rfl, rfl, rfl, rfl, rfl⟩ rfl rfl rfl rfl rfl (by kernel_rfl) Tryd.func3 (by kernel_rfl)
    (of_decide_eq_true (by kernel_rfl)) (by unfold Func.isWrapper; first | (rw [if_pos (by decide +kernel)]; kernel_rfl) | (rw [if_neg (by decide +kernel)]; exact ⟨rfl, rfl⟩))
    (fun os started H enc _ => chunkKnown_lifted os started H enc)
theorem chunkKnown_holds : Rows.ChunkKnownCardSaid :=
  Claim7.holds_tied_plain_at .later [] [.data, .data] true Rows.chunkKnownCard.stood.harness Rows.chunkKnownCard.stood.looks
    chunkKnown_row (fun _ h => by cases h) (by kernel_rfl) (fun _ h => by cases h) chunkKnown_row_tie rfl ⟨rfl, rfl⟩ (by kernel_rfl) rfl
    (fun f fn hf hfn => by
      obtain rfl : f = 3 := Option.some.inj ((show Tryd.prog.funcNamed "tallyman/tallymanlaw11.ChunkKnown" = some 3 by kernel_rfl).symm.trans hf) |>.symm
      obtain rfl : fn = Tryd.f3 := (Option.some.inj (Tryd.func3.symm.trans hfn)).symm
      exact ⟨by kernel_rfl, fun j t ht => by
        rw [Tryd.params3] at ht
        simp at ht⟩)
    (by kernel_rfl)
#print axioms chunkKnown_holds
end Go.Proofs.YthpledfjopbchaaDoor
