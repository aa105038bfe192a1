/- PathSays: the program's answers are the document's own: the given statement WHERE WHAT IT READS IS OF BULK AT MOST 1048576 (the tied card). No condition of ours. The first form is false by size: a Good that lists a text's names grows a slice by 16 bytes a slash. -/
import Derived.Test.YtflgncagoiigfaaDoorSays7
import Derived.Test.YtflgncagoiigfaaDoorOpen7
import Derived.Test.YtflgncagoiigfaaDoorCards
import Derived.Test.YtflgncagoiigfaaDoorTie
import Derived.ShutString
import Derived.ChangeOld
import Derived.SevenTiedAt
import Derived.Deep.DeepHandedRow
namespace Go.Proofs.YtflgncagoiigfaaDoor
open Go.ChangeShapes Go.WideShapes Go.ChangeAt Go.RowKit Go.ChangeMaps
/-- What a reading's bulk says of texts in it. -/
theorem bulk_strs {H : Type} : ∀ (l : List ByteArray), l.length ≤ Rows.uptoBulkAll (strs (H := H) l) ∧ ∀ s ∈ l, s.size ≤ Rows.uptoBulkAll (strs (H := H) l)
  | [] => ⟨by simp [strs, Rows.uptoBulkAll], fun _ h => by cases h⟩
  | s :: r => by
    obtain ⟨h1, h2⟩ := bulk_strs (H := H) r
    have e : Rows.uptoBulkAll (strs (H := H) (s :: r)) = s.data.toList.length + 1 + Rows.uptoBulkAll (strs (H := H) r) := rfl
    have e2 : s.data.toList.length = s.size := rfl
    rw [e]
    refine ⟨by simp only [List.length_cons]; omega, fun t ht => ?_⟩
    rcases List.mem_cons.1 ht with rfl | ht
    · omega
    · have := h2 t ht; omega
set_option maxRecDepth 100000 in
theorem open_textsB {H : Type} {enc : TypeId × Value → H} {w : World} {base b0 : Nat} {held : Bool} {r : Reach} {v : Value} {d : DataW H} {ps : List MemPlace}
    (hval : Value.okWide Tryd.prog w r b0 23 v) (h : DataW.Trod enc Tryd.prog w base (fun _ => true) held 23 v d ps) :
    ∃ (l : List ByteArray) (q : Option Addr) (c : Nat), v = .slice q l.length c ∧ l.length ≤ Rows.uptoBulk d ∧ (∀ s ∈ l, s.size ≤ Rows.uptoBulk d) ∧ Sees w w.heap.size q (l.map Value.string) := by
  obtain ⟨a0, len0, cap0, rfl⟩ := okWide_slice Tryd.underlying23 hval
  obtain ⟨fuel, hf⟩ := h
  rcases open_strings Tryd.underlying23 Tryd.underlying9 (by kernel_rfl) hf with ⟨hcs, _⟩ | ⟨x, l, c, ss, hcs, _, hl, hm, hz, hd, hcell, hwz⟩
  · simp [Value.cells] at hcs
    obtain ⟨rfl, rfl, rfl⟩ := hcs
    exact ⟨[], none, 0, rfl, by simp, by simp, Sees.nil _ _ _⟩
  · simp [Value.cells] at hcs
    obtain ⟨rfl, rfl, rfl⟩ := hcs
    have hz' : ss.length = cap0 := by simpa using hz
    obtain ⟨rfl, _⟩ : d = .slice (strs (ss.take len0)) (strs (ss.drop len0)) ∧ ps = _ := by injection hd with e1 e2; exact ⟨e1, e2⟩
    obtain ⟨b1, b2⟩ := bulk_strs (H := H) (ss.take len0)
    have e : Rows.uptoBulk (.slice (strs (H := H) (ss.take len0)) (strs (ss.drop len0))) = Rows.uptoBulkAll (strs (H := H) (ss.take len0)) + Rows.uptoBulkAll (strs (H := H) (ss.drop len0)) + 1 := rfl
    rw [e]
    refine ⟨ss.take len0, some x, cap0, by simp; omega, by omega, fun s hs => by have := b2 s hs; omega, fun h0 => ?_⟩
    have hp : 0 < ss.length := by simp at h0; omega
    refine ⟨x, rfl, by have := cell_lt (hcell 0 hp); rwa [add_block] at this, fun j u hu => ?_⟩
    have hj : j < len0 := by have := (List.getElem?_eq_some_iff.1 hu).1; simp at this; omega
    rw [hcell j (by omega), ← hu, List.getElem?_map, List.getElem?_take, if_pos hj, List.getElem?_eq_getElem (show j < ss.length by omega)]
    simp [List.getD_eq_getElem?_getD, List.getElem?_eq_getElem (show j < ss.length by omega)]
theorem says_of (p n : ByteArray) (l : List ByteArray) (q : Option Addr) (c : Nat) (hp : p.size ≤ 1048576) (hn : n.size ≤ 1048576) (hl : l.length ≤ 1048576) (ht : ∀ s ∈ l, s.size ≤ 1048576) (w : World) (hs : Sees w w.heap.size q (l.map Value.string)) :
    Calls Tryd.prog 4 #[.string p, .string n, .slice q l.length c] w fun e w' => e = .returned (.bool true) ∧ Below w.heap.size w w' := by
  have h := says_any p n (l.map bt) q c hp hn (by simpa using hl) (fun t ht' => by obtain ⟨s, h1, rfl⟩ := List.mem_map.1 ht'; exact ht s h1) w (by rw [Lib.map_encStr]; exact hs)
  rwa [List.length_map] at h
theorem says_reads (os : Os) {H : Type} (enc : TypeId × Value → H) : ∃ places, DataW.whole enc Tryd.prog ((World.laidAll Tryd.prog os laidVars).forCall (fun _ _ => 0) ⟨#[], #[.string ⟨#[]⟩, .string ⟨#[]⟩, .slice none 0 0], []⟩).memory Tryd.f4.params.toList Rows.pathSaysSpec.vars false #[Value.string ⟨#[]⟩, Value.string ⟨#[]⟩, Value.slice none 0 0].toList 8 = some ([.lit (.string []), .lit (.string []), .nil], [], places) :=
  ⟨[], by kernel_rfl⟩
set_option maxRecDepth 100000 in
theorem says_lifted (os : Os) (started : os.Started) (H : Type) (enc : TypeId × Value → H) (F : Stop.Interp) :
    ReturnsInHanded {} Tryd.checked os 4 .any ((Rows.OpenSpec.upto Rows.pathSaysSpec).preRow enc Tryd.prog Tryd.f4 Rows.pathSaysUptoRow.domain false Rows.pathSaysUptoRow.laid) (((Rows.OpenSpec.upto Rows.pathSaysSpec).at F).post enc Tryd.prog Tryd.f4 false true false false) := by
  obtain ⟨places, hx⟩ := says_reads os enc
  refine returnsInHanded_of_row (C := Tryd.checked) (s := Rows.OpenSpec.upto Rows.pathSaysSpec) own started (by kernel_rfl) Tryd.func4
    ⟨World.laidAll Tryd.prog os laidVars, fun _ _ => 0, ⟨#[], #[.string ⟨#[]⟩, .string ⟨#[]⟩, .slice none 0 0], []⟩, World.laidAll_os _ _ _, World.shaped_of_ZipB (by kernel_rfl) (by kernel_rfl), rfl, (Input.okWide_of_okWideB (by kernel_rfl)).2,
      OpenSpec.preRow_of_cond 8 hx (by kernel_rfl) (fun k hk => by cases hk; kernel_rfl) (by kernel_rfl) (laid_met os _), by
        simp only [Assume.holds]
        exact ⟨by simp, by simp, by simp, by simp, by simp⟩⟩ ?_
  intro W base args ds gs before hval0 hW _ hcond _ hL _ _
  have hsmall : Rows.uptoSmall H (ds ++ gs) = true := hcond _ rfl
  have hbulk : Rows.uptoBulkAll (ds ++ gs) ≤ 1048576 := of_decide_eq_true hsmall
  have hval : ∀ (j : Nat) t v, Tryd.f4.params[j]? = some t → args[j]? = some v → Value.okWide Tryd.prog W .any base t v := hval0
  have hW' := hW
  obtain ⟨p, q, hA0, hV, rfl, hfz, hnd⟩ := hW
  have hA : DataW.TrodAll enc Tryd.prog W 0 (fun _ => true) true Tryd.f4.params.toList args.toList ds p := hA0
  rw [Tryd.params4] at hA hval
  obtain ⟨v0, vs0, d0, ds0, p0, g0, hargs, rfl, rfl, h0, r0⟩ := trodAll_cons hA
  obtain ⟨v1, vs1, d1, ds1, p1, g1, rfl, rfl, rfl, h1, r1⟩ := trodAll_cons r0
  obtain ⟨v2, vs2, d2, ds2, p2, g2, rfl, rfl, rfl, h2, r2⟩ := trodAll_cons r1
  obtain ⟨rfl, rfl, rfl⟩ := trodAll_nil r2
  obtain rfl : args = #[v0, v1, v2] := by cases args; simp_all
  obtain ⟨rfl, rfl⟩ := trodVars_none hV
  obtain ⟨s0, rfl, rfl, rfl, m0⟩ := open_string Tryd.underlying9 (hval 0 9 v0 rfl rfl) h0
  obtain ⟨s1, rfl, rfl, rfl, m1⟩ := open_string Tryd.underlying9 (hval 1 9 v1 rfl rfl) h1
  have k2 := h2
  have lt2 : ∀ x ∈ p2, x.block < W.heap.size := by obtain ⟨m, hm⟩ := k2; exact DataW.trod_lt m _ _ _ hm
  obtain ⟨l2, q2, c2, rfl, b1, b2, hs2⟩ := open_textsB (hval 2 23 v2 rfl rfl) h2
  have e : Rows.uptoBulkAll ([DataW.lit (H := H) (.string s0.data.toList), DataW.lit (.string s1.data.toList), d2] ++ []) = (s0.data.toList.length + 1) + ((s1.data.toList.length + 1) + (Rows.uptoBulk d2 + 0)) := rfl
  have hb3 : (s0.data.toList.length + 1) + ((s1.data.toList.length + 1) + (Rows.uptoBulk d2 + 0)) ≤ 1048576 := by rw [← e]; exact hbulk
  have z0 : s0.data.toList.length = s0.size := rfl
  have z1 : s1.data.toList.length = s1.size := rfl
  clear hA0 hval0 hsmall hcond hbulk e
  refine (says_of s0 s1 l2 q2 c2 (by omega) (by omega) (by omega) (fun s hs => by have := b2 s hs; omega) W hs2).mono fun e W' ⟨he, bel⟩ => ?_
  subst he
  exact ⟨_, rfl, _, _, _, [], _, [], hW', trodAll_mk1 (shut_bool Tryd.underlying4 _), (trodAll_cons_mk (shut_string Tryd.underlying9 m0) (trodAll_cons_mk (shut_string Tryd.underlying9 m1) (trodAll_cons_mk (Below.trod laidOut (by kernel_rfl) (of_decide_eq_true (by kernel_rfl)) k2 bel lt2) trodAll_mk0))), rfl, bel.frame _, fun h => by cases h⟩
theorem says_row : Rows.PathSaysUptoSaid :=
  OpenClaim.holds_of_cond 4 Tryd.f4 rfl rfl rfl rfl rfl rfl rfl ⟨rfl, rfl, rfl, rfl, rfl⟩ rfl rfl rfl rfl rfl (by kernel_rfl) Tryd.func4 (by kernel_rfl)
    (of_decide_eq_true (by kernel_rfl)) (by unfold Func.isWrapper; first | (rw [if_pos (by decide +kernel)]; kernel_rfl) | (rw [if_neg (by decide +kernel)]; exact ⟨rfl, rfl⟩))
    (fun os started H enc _ F => by rw [OpenClaim.pre_eq_preRow]; exact says_lifted os started H enc F)
theorem pathSaysUpto_holds : Rows.PathSaysUptoCardSaid :=
  Claim7.holds_tied_plain_at .later [] [.data, .pinned] true Rows.pathSaysUptoCard.stood.harness Rows.pathSaysUptoCard.stood.looks
    says_row (fun _ h => by cases h) (by kernel_rfl) (fun _ h => by cases h) pathSaysUpto_row_tie rfl ⟨rfl, rfl⟩ (by kernel_rfl) rfl
    (fun f fn hf hfn => by
      obtain rfl : f = 4 := Option.some.inj ((show Tryd.prog.funcNamed "tallyman/tallymanlaw7.PathSays" = some 4 by kernel_rfl).symm.trans hf) |>.symm
      obtain rfl : fn = Tryd.f4 := (Option.some.inj (Tryd.func4.symm.trans hfn)).symm
      exact ⟨by kernel_rfl, fun j t ht => by
        rw [Tryd.params4] at ht
        have hm : t ∈ [9, 9, 23] := by simpa using Array.mem_of_getElem? ht
        have hall : ([9, 9, 23].all fun u => !Tryd.prog.wantsStandIn u) = true := by kernel_rfl
        exact (show Tryd.prog.wantsStandIn t = false by simpa using List.all_eq_true.1 hall t hm)⟩)
    (by kernel_rfl)
#print axioms pathSaysUpto_holds
end Go.Proofs.YtflgncagoiigfaaDoor
