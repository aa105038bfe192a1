/- What the rows give the walks of package tree's laws: a slice of entries that came in. -/
import Derived.Test.YthpendoblgndcaaDoorRows
import Derived.Test.YthpendoblgndcaaDoorBase1
import Derived.Test.YthpendoblgndcaaDoorBase5
import Derived.Lib.SmallJoins
import Derived.SizedLaws
namespace Go.Proofs.YthpendoblgndcaaDoor
open Go.ChangeShapes Go.WideShapes Go.ChangeAt Go.RowKit Go.ChangeMaps Go.Deep Go.Joins 
theorem weightsAll_mem {H : Type} {P : Program} {e : TypeId} : ∀ {l : List (DataW H)} {d : DataW H}, d ∈ l → ∀ n ∈ d.weights P e, n ∈ DataW.weightsAll P e l
  | d' :: r, d, hd, n, hn => by
    simp only [DataW.weightsAll, List.mem_append]
    rcases List.mem_cons.1 hd with rfl | h
    · exact .inl hn
    · exact .inr (weightsAll_mem h n hn)
def byteOf : Value → BitVec 8
  | .int _ n => BitVec.ofInt 8 n
  | _ => 0
theorem u8v_byteOf (n : Int) (h : (Lit.int .u8 n).wf = true) : u8v (byteOf (.int .u8 n)) = .int .u8 n := by
  have hb : 0 ≤ n ∧ n ≤ 255 := bounds_u8 h
  obtain ⟨m, rfl⟩ := Int.eq_ofNat_of_zero_le hb.1
  show Value.int .u8 (B (BitVec.ofInt 8 (m : Int))) = _
  rw [BitVec.ofInt_natCast, ← B_ofNat m (by omega)]
set_option maxRecDepth 100000 in
theorem open_bytesF {H : Type} {enc : TypeId × Value → H} {w : World} {base fuel : Nat} {held : Bool} {v : Value} {y : DataW H × List MemPlace}
    (hf : DataW.trod enc Tryd.prog w base (fun _ => true) held fuel 30 [v] = some y) :
    ∃ b : List (BitVec 8), Bs w v b ∧ b.length ≤ maxLen ∧ (b.length = 0 ∨ ∃ n ∈ y.1.weights Tryd.prog 30, b.length ≤ n) := by
  obtain ⟨a0, len0, cap0, hv⟩ := slice_form Tryd.underlying30 hf
  obtain rfl : v = .slice a0 len0 cap0 := by simpa using hv
  obtain ⟨d, ps⟩ := y
  have hsl := sliceLen_trod Tryd.underlying30 hf
  have hw : len0 = 0 ∨ ∃ n ∈ d.weights Tryd.prog 30, len0 ≤ n := by
    cases d <;> first | (exact .inl (by simpa [sliceLen] using hsl.symm)) | skip
    rename_i el sp
    refine .inr ⟨(el.length + sp.length) * Tryd.prog.bytesOf 5, by simp [DataW.weights, Tryd.underlying30], ?_⟩
    have hb1 : Tryd.prog.bytesOf 5 = 1 := by kernel_rfl
    have : el.length = len0 := by simpa [sliceLen] using hsl
    rw [hb1]; omega
  rcases open_ints Tryd.underlying30 Tryd.underlying5 (by kernel_rfl) hf with ⟨hcs, _⟩ | ⟨x, l, c, zs, hcs, _, hl, hm, hz, _, hcell, hwz⟩
  · simp at hcs
    obtain ⟨rfl, rfl, rfl⟩ := hcs
    exact ⟨[], ⟨none, 0, rfl, Nat.le_refl _, fun _ => rfl, Sees.nil _ _ _⟩, by simp, .inl rfl⟩
  · simp at hcs
    obtain ⟨rfl, rfl, rfl⟩ := hcs
    have hz' : zs.length = cap0 := by simpa using hz
    have hbl : ((zs.take len0).map fun n => byteOf (.int .u8 n)).length = len0 := by simp; omega
    refine ⟨(zs.take len0).map fun n => byteOf (.int .u8 n), ⟨some x, cap0, by rw [hbl], by rw [hbl]; omega, fun h => (by cases h), fun h0 => ?_⟩, by rw [hbl]; omega, by rw [hbl]; exact hw⟩
    have hp : 0 < zs.length := by simp at h0; omega
    refine ⟨x, rfl, by have := cell_lt (hcell 0 hp); rwa [add_block] at this, fun j u hu => ?_⟩
    have hj : j < len0 := by have := (List.getElem?_eq_some_iff.1 hu).1; simp at this; omega
    rw [hcell j (by omega), ← hu, List.getElem?_map, List.getElem?_map, List.getElem?_take, if_pos hj, List.getElem?_eq_getElem (show j < zs.length by omega)]
    simp [List.getD_eq_getElem?_getD, List.getElem?_eq_getElem (show j < zs.length by omega), u8v_byteOf _ (hwz _ (List.getElem_mem _))]
set_option maxRecDepth 100000 in
theorem open_entF {H : Type} {enc : TypeId × Value → H} {w : World} {base fuel : Nat} {held : Bool} {cs : List Value} {y : DataW H × List MemPlace}
    (hf : DataW.trod enc Tryd.prog w base (fun _ => true) held fuel 32 cs = some y) :
    ∃ e : Ent, cs = entC e ∧ e.1.size ≤ maxLen ∧ Bs w e.val e.by ∧ (e.by.length = 0 ∨ ∃ n ∈ y.1.weights Tryd.prog 32, e.by.length ≤ n) := by
  obtain ⟨y0, y1, y2, n, hy, hl, h0, h1, h2⟩ := trod_struct3 Tryd.underlying32 hf
  have hc3 : Tryd.prog.cellsOf 32 = 3 := by kernel_rfl
  have hcs : Tryd.prog.cellsOf 9 = 1 := by kernel_rfl
  have hcb : Tryd.prog.cellsOf 4 = 1 := by kernel_rfl
  have hcu : Tryd.prog.cellsOf 30 = 1 := by kernel_rfl
  match cs, hl.trans hc3 with
  | [c0, c1, c2], _ =>
    have g0 : DataW.trod enc Tryd.prog w base (fun _ => true) held n 9 [c0] = some y0 := by simpa [hcs] using h0
    have g1 : DataW.trod enc Tryd.prog w base (fun _ => true) held n 4 [c1] = some y1 := by simpa [hcb] using h1
    have g2 : DataW.trod enc Tryd.prog w base (fun _ => true) held n 30 [c2] = some y2 := by simpa [hcu] using h2
    obtain ⟨s, e0, _, hs⟩ := DataW.trod_string Tryd.underlying9 g0
    obtain ⟨d, e1, _⟩ := DataW.trod_bool Tryd.underlying4 g1
    obtain ⟨b, hb, hbl, hbw⟩ := open_bytesF g2
    obtain rfl : c0 = .string s := by simpa using e0
    obtain rfl : c1 = .bool d := by simpa using e1
    refine ⟨(s, d, c2, b), rfl, hs, hb, ?_⟩
    rcases hbw with h | ⟨m, hm, hle⟩
    · exact .inl h
    · refine .inr ⟨m, ?_, hle⟩
      rw [hy]
      simp only [DataW.weights, Tryd.underlying32]
      exact DataW.weights_mem_each (j := 2) rfl rfl _ hm
set_option maxRecDepth 100000 in
theorem open_ents {H : Type} {enc : TypeId × Value → H} {w : World} {base b0 : Nat} {held : Bool} {r : Reach} {v : Value} {d : DataW H} {ps : List MemPlace}
    (hval : Value.okWide Tryd.prog w r b0 23 v) (h : DataW.Trod enc Tryd.prog w base (fun _ => true) held 23 v d ps) :
    ∃ (C : List Ent) (q : Option Addr) (c : Nat), v = .slice q C.length c ∧ C.length ≤ c ∧ (q = none → c = 0) ∧ (∀ e ∈ C, e.1.size ≤ maxLen) ∧ Sees w w.heap.size q (rowC C) ∧ Ents w C ∧ ∀ e ∈ C, e.by.length = 0 ∨ ∃ n ∈ d.weights Tryd.prog 23, e.by.length ≤ n := by
  obtain ⟨a0, len0, cap0, rfl⟩ := okWide_slice Tryd.underlying23 hval
  obtain ⟨fuel, hf⟩ := h
  have hc3 : Tryd.prog.cellsOf 32 = 3 := by kernel_rfl
  rcases open_slice Tryd.underlying23 hf with ⟨hcs, _⟩ | ⟨a, len, cap, m, n, D, Pl, hcs, hbk, hl, hm, hmm, hx, hel⟩
  · simp [Value.cells] at hcs
    obtain ⟨rfl, rfl, rfl⟩ := hcs
    exact ⟨[], none, 0, rfl, Nat.le_refl _, fun _ => rfl, by simp, Sees.nil _ _ _, (fun _ hx => nomatch hx), (fun _ hx => nomatch hx)⟩
  · simp [Value.cells] at hcs
    obtain ⟨rfl, rfl, rfl⟩ := hcs
    have hmc : m = cap0 := by rw [hmm]; rfl
    have key : ∀ i, i < len0 → ∃ e : Ent, (∀ j, j < 3 → w.cell? (a.add (i * 3 + j)) = (entC e)[j]?) ∧ e.1.size ≤ maxLen ∧ Bs w e.val e.by ∧ (e.by.length = 0 ∨ ∃ n ∈ (D i).weights Tryd.prog 32, e.by.length ≤ n) := fun i hi => by
      obtain ⟨cs', h1, h2⟩ := hel i (by omega)
      obtain ⟨e, rfl, hs, hb, hw⟩ := open_entF h2
      rw [hc3] at h1
      obtain ⟨_, _, h5⟩ := World.cells?_some h1
      exact ⟨e, fun j hj => by rw [← add_add]; exact h5 j hj, hs, hb, hw⟩
    have ⟨f, hfk⟩ : ∃ f : Nat → Ent, ∀ i, i < len0 → (∀ j, j < 3 → w.cell? (a.add (i * 3 + j)) = (entC (f i))[j]?) ∧ (f i).1.size ≤ maxLen ∧ Bs w (f i).val (f i).by ∧ ((f i).by.length = 0 ∨ ∃ n ∈ (D i).weights Tryd.prog 32, (f i).by.length ≤ n) := by
      refine ⟨fun i => if h : i < len0 then Classical.choose (key i h) else (⟨#[]⟩, false, .slice none 0 0, []), fun i hi => ?_⟩
      simp only [dif_pos hi]
      exact Classical.choose_spec (key i hi)
    have hlen : ((List.range len0).map f).length = len0 := by simp
    have hmem : ∀ e ∈ (List.range len0).map f, ∃ i, i < len0 ∧ e = f i := fun e he => by
      obtain ⟨i, hi, rfl⟩ := List.mem_map.1 he
      exact ⟨i, List.mem_range.1 hi, rfl⟩
    refine ⟨(List.range len0).map f, some a, cap0, by rw [hlen], by rw [hlen]; omega, fun h => (by cases h), fun e he => ?_, fun h0 => ?_, fun e he => ?_, fun e he => ?_⟩
    · obtain ⟨i, hi, rfl⟩ := hmem e he
      exact (hfk i hi).2.1
    · rw [rowC_len, hlen] at h0
      have hp : 0 < len0 := by omega
      have hc0 : w.cell? (a.add 0) = some (.string (f 0).1) := by have := (hfk 0 hp).1 0 (by omega); simpa [entC] using this
      refine ⟨a, rfl, by have := cell_lt hc0; rwa [add_block] at this, fun j u hu => ?_⟩
      have hj := (List.getElem?_eq_some_iff.1 hu).1
      rw [rowC_len, hlen] at hj
      have hi : j / 3 < len0 := by omega
      have hcc := (hfk (j / 3) hi).1 (j % 3) (by omega)
      rw [show j / 3 * 3 + j % 3 = j by omega] at hcc
      rw [hcc, ← hu]
      obtain ⟨r1, r2, r3⟩ := rowC_get ((List.range len0).map f) (j / 3) (by rw [hlen]; exact hi)
      have hg : ((List.range len0).map f)[j / 3]'(by rw [hlen]; exact hi) = f (j / 3) := by simp
      rw [hg] at r1 r2 r3
      have h3 : j % 3 = 0 ∨ j % 3 = 1 ∨ j % 3 = 2 := by omega
      rcases h3 with h | h | h
      · rw [show j / 3 * 3 = j by omega] at r1; rw [h, r1]; rfl
      · rw [show j / 3 * 3 + 1 = j by omega] at r2; rw [h, r2]; rfl
      · rw [show j / 3 * 3 + 2 = j by omega] at r3; rw [h, r3]; rfl
    · obtain ⟨i, hi, rfl⟩ := hmem e he
      exact (hfk i hi).2.2.1
    · obtain ⟨i, hi, rfl⟩ := hmem e he
      rcases (hfk i hi).2.2.2 with h | ⟨n, hn, hle⟩
      · exact .inl h
      · refine .inr ⟨n, ?_, hle⟩
        have hd : d = .slice ((List.range len0).map D) ((List.range (m - len0)).map fun j => D (len0 + j)) := (congrArg Prod.fst hx)
        rw [hd]
        simp only [DataW.weights, Tryd.underlying23, List.mem_cons, List.mem_append]
        exact .inr (.inl (weightsAll_mem (List.mem_map.2 ⟨i, List.mem_range.2 hi, rfl⟩) n hn))
theorem bytes_bound {C : List Ent} (h : ∀ e ∈ C, e.by.length ≤ reachBytes) : C.length ≤ 40 → bytesT C ≤ 2305843009213693952 := by
  have key : ∀ D : List Ent, (∀ e ∈ D, e.by.length ≤ reachBytes) → bytesT D ≤ D.length * reachBytes := by
    intro D
    induction D with
    | nil => intro _; simp [bytesT]
    | cons x D ih =>
      intro hD
      have h1 := ih fun e he => hD e (List.mem_cons_of_mem _ he)
      have h2 := hD x (List.mem_cons_self ..)
      have h3 : bytesT (x :: D) = x.by.length + bytesT D := by unfold bytesT; rw [List.map_cons, List.sum_cons]
      rw [h3, List.length_cons, Nat.add_mul, Nat.one_mul]; omega
  intro hl
  have h1 := key C h
  have h2 : C.length * reachBytes ≤ 40 * reachBytes := Nat.mul_le_mul_right _ hl
  have h3 : 40 * reachBytes ≤ 2305843009213693952 := by decide
  omega
theorem paths_bound {C : List Ent} (h : ∀ e ∈ C, e.1.size ≤ maxLen) : ∀ e ∈ C, e.1.size < 9223372036854775808 := fun e he => by
  have := h e he
  unfold maxLen at this
  omega
end Go.Proofs.YthpendoblgndcaaDoor
