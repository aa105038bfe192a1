/- Any sets, any sum: as the document says, P10.1 and on (SetSays). No condition: every two slices of sums, whatever their spare room, every sum; the law returns true and leaves its arguments as they were. -/
import Derived.Test.YtihkbblapfjobaaDoorSyn
import Derived.Test.YtihkbblapfjobaaDoorSyp
import Derived.Test.YtihkbblapfjobaaDoorSyq
import Derived.Test.YtihkbblapfjobaaDoorLaid
import Derived.Below
import Derived.ShutString
import Derived.Test.YtihkbblapfjobaaDoorUm
import Derived.Deep.Slices
import Derived.Test.YtihkbblapfjobaaDoorCards
import Derived.Test.YtihkbblapfjobaaDoorTie
import Derived.ChangeOld
import Derived.SevenTiedAt
/- The law SetSays: it answers true. Conditions: the sums' tables are laid; what comes in lies in memory. -/
namespace Go.Proofs.YtihkbblapfjobaaDoor
open Go.RowKit
theorem setSays_law (A B : List Su) (sx : Su) (qa qb : Option Addr) (ca cb : Nat) (w : World) (hL : Laid w) (ha : Sees w w.heap.size qa (rowU A)) (hb : Sees w w.heap.size qb (rowU B)) : Calls Tryd.prog 8 #[.slice qa A.length ca, .slice qb B.length cb, .agg (encU sx).toArray] w fun e w' => e = .returned (.bool true) ∧ Below w.heap.size w w' := by
  have h : Calls Tryd.prog 8 #[.slice qa A.length ca, .slice qb B.length cb, .agg (encU sx).toArray] w fun e w' => (∃ v, e = .returned v ∧ v = .bool true) ∧ Below w.heap.size w w' := by
    cases hgA : goodU A with
    | false => exact setSays_n A B sx qa qb ca cb w w (Below.refl _ _) hL ha hb hgA
    | true =>
      cases hgB : goodU B with
      | false => exact setSays_p A B sx qa qb ca cb w w (Below.refl _ _) hL ha hb hgA hgB
      | true => exact setSays_q A B sx qa qb ca cb w w (Below.refl _ _) hL ha hb hgA hgB
  exact Calls.mono h (by rintro e w' ⟨⟨v, rfl, rfl⟩, h⟩; exact ⟨rfl, h⟩)
end Go.Proofs.YtihkbblapfjobaaDoor
/- What stands under the openers of sums, at a seat with package sum's variables laid. No condition. -/
namespace Go.Proofs.YtihkbblapfjobaaDoor
open Go.ChangeShapes Go.WideShapes Go.ChangeAt Go.RowKit
theorem laidOut : laidOutB Tryd.prog = true := by kernel_rfl
def byteOf : Value → BitVec 8
  | .int _ n => BitVec.ofInt 8 n
  | _ => 0
theorem u8v_byteOf (n : Int) (h : (Lit.int .u8 n).wf = true) : u8v (byteOf (.int .u8 n)) = .int .u8 n := by
  have hb : 0 ≤ n ∧ n ≤ 255 := bounds_u8 h
  obtain ⟨m, rfl⟩ := Int.eq_ofNat_of_zero_le hb.1
  show Value.int .u8 (B (BitVec.ofInt 8 (m : Int))) = _
  rw [BitVec.ofInt_natCast, ← B_ofNat m (by omega)]
end Go.Proofs.YtihkbblapfjobaaDoor
/- A sum by value, a slice of sums, that came in. No condition. -/
namespace Go.Proofs.YtihkbblapfjobaaDoor
open Go.ChangeShapes Go.WideShapes Go.ChangeAt Go.RowKit Go.Deep
theorem cell_ltU {w : World} {a : Addr} {v : Value} (h : w.cell? a = some v) : a.block < w.heap.size := by
  rcases Nat.lt_or_ge a.block w.heap.size with hl | hl
  · exact hl
  · unfold World.cell? at h
    rw [Array.getElem?_eq_none hl] at h
    cases h
set_option maxRecDepth 100000 in
theorem open_suF {H : Type} {enc : TypeId × Value → H} {w : World} {base fuel : Nat} {held : Bool} {cs : List Value} {y : DataW H × List MemPlace}
    (hf : DataW.trod enc Tryd.prog w base (fun _ => true) held fuel 23 cs = some y) : ∃ s : Su, cs = encU s := by
  obtain ⟨d, ps⟩ := y
  obtain ⟨xs, m, rfl, _, hlen, hxl, hel⟩ := DataW.trod_array Tryd.underlying23 hf
  have c1 : Tryd.prog.cellsOf 5 = 1 := by kernel_rfl
  have c32 : Tryd.prog.cellsOf 23 = 32 := by kernel_rfl
  have hs : cs.length = 32 := by rw [c32] at hlen; exact hlen
  refine ⟨⟨cs.map byteOf, by simpa using hs⟩, ?_⟩
  show cs = (cs.map byteOf).map u8v
  symm
  apply List.ext_getElem?
  intro i
  rcases Nat.lt_or_ge i 32 with hi | hi
  · have hxi := hel i hi
    rw [c1, List.getElem?_eq_getElem (by omega)] at hxi
    obtain ⟨n, e1, _, e3⟩ := DataW.trod_int Tryd.underlying5 hxi
    have hd : (cs.drop (i * 1)).take 1 = [cs[i]] := by
      rw [Nat.mul_one, List.drop_eq_getElem_cons (by omega)]; rfl
    have e4 : cs[i] = .int .u8 n := by
      rw [hd] at e1
      simpa using e1
    rw [List.getElem?_map, List.getElem?_map, List.getElem?_eq_getElem (by omega), e4]
    simp [u8v_byteOf n e3]
  · rw [List.getElem?_eq_none (by simp; omega), List.getElem?_eq_none (by omega)]
set_option maxRecDepth 100000 in
theorem open_su {H : Type} {enc : TypeId × Value → H} {w : World} {base b0 : Nat} {held : Bool} {r : Reach} {v : Value} {d : DataW H} {ps : List MemPlace}
    (hval : Value.okWide Tryd.prog w r b0 23 v) (h : DataW.Trod enc Tryd.prog w base (fun _ => true) held 23 v d ps) : ∃ s : Su, v = .agg (encU s).toArray := by
  unfold Value.okWide at hval
  rw [Tryd.underlying23] at hval
  obtain ⟨cs, rfl, _, _⟩ := hval
  obtain ⟨fuel, hf⟩ := h
  obtain ⟨s, hs⟩ := open_suF hf
  refine ⟨s, ?_⟩
  have e : cs.toList = encU s := hs
  rw [← e]
set_option maxRecDepth 100000 in
theorem open_sus {H : Type} {enc : TypeId × Value → H} {w : World} {base b0 : Nat} {held : Bool} {r : Reach} {v : Value} {d : DataW H} {ps : List MemPlace}
    (hval : Value.okWide Tryd.prog w r b0 44 v) (h : DataW.Trod enc Tryd.prog w base (fun _ => true) held 44 v d ps) :
    ∃ (L : List Su) (q : Option Addr) (c : Nat), v = .slice q L.length c ∧ L.length ≤ c ∧ (q = none → c = 0) ∧ Sees w w.heap.size q (rowU L) := by
  obtain ⟨a0, len0, cap0, rfl⟩ := okWide_slice Tryd.underlying44 hval
  obtain ⟨fuel, hf⟩ := h
  have hc : Tryd.prog.cellsOf 23 = 32 := by kernel_rfl
  rcases open_slice Tryd.underlying44 hf with ⟨hcs, _⟩ | ⟨a, len, cap, m, n, D, Pl, hcs, hbk, hl, hm, hmm, hx, hel⟩
  · simp [Value.cells] at hcs
    obtain ⟨rfl, rfl, rfl⟩ := hcs
    exact ⟨[], none, 0, rfl, Nat.le_refl _, fun _ => rfl, Sees.nil _ _ _⟩
  · simp [Value.cells] at hcs
    obtain ⟨rfl, rfl, rfl⟩ := hcs
    have hmc : m = cap0 := by rw [hmm]; rfl
    have key : ∀ i, i < len0 → ∃ s : Su, ∀ j, j < 32 → w.cell? (a.add (i * 32 + j)) = (encU s)[j]? := fun i hi => by
      obtain ⟨cs', h1, h2⟩ := hel i (by omega)
      obtain ⟨s, rfl⟩ := open_suF h2
      rw [hc] at h1
      obtain ⟨_, _, h5⟩ := World.cells?_some h1
      exact ⟨s, fun j hj => by rw [← add_add]; exact h5 j hj⟩
    have ⟨f, hfk⟩ : ∃ f : Nat → Su, ∀ i, i < len0 → ∀ j, j < 32 → w.cell? (a.add (i * 32 + j)) = (encU (f i))[j]? := by
      refine ⟨fun i => if h : i < len0 then Classical.choose (key i h) else default, fun i hi => ?_⟩
      simp only [dif_pos hi]
      exact Classical.choose_spec (key i hi)
    have hlen : ((List.range len0).map f).length = len0 := by simp
    refine ⟨(List.range len0).map f, some a, cap0, by rw [hlen], by rw [hlen]; omega, fun h => (by cases h), fun h0 => ?_⟩
    rw [rowU_len, hlen] at h0
    have hp : 0 < len0 := by omega
    have e0 : (encU (f 0))[0]? = some ((encU (f 0))[0]'(by rw [encU_len]; decide)) := List.getElem?_eq_getElem _
    have hc0 := hfk 0 hp 0 (by decide)
    rw [e0] at hc0
    refine ⟨a, rfl, by have := cell_ltU hc0; rwa [add_block] at this, fun j u hu => ?_⟩
    have hj := (List.getElem?_eq_some_iff.1 hu).1
    rw [rowU_len, hlen] at hj
    have hi : j / 32 < len0 := by omega
    have hg : ((List.range len0).map f)[j / 32]'(by rw [hlen]; exact hi) = f (j / 32) := by simp
    have h1 := rowU_get ((List.range len0).map f) (j / 32) (by rw [hlen]; exact hi) (j % 32) (Nat.mod_lt _ (by decide))
    rw [hg, show j / 32 * 32 + j % 32 = j by omega] at h1
    have h2 := hfk (j / 32) hi (j % 32) (Nat.mod_lt _ (by decide))
    rw [show j / 32 * 32 + j % 32 = j by omega] at h2
    rw [h2, ← h1, hu]
end Go.Proofs.YtihkbblapfjobaaDoor
namespace Go.Proofs.YtihkbblapfjobaaDoor
open Go.ChangeShapes Go.WideShapes Go.ChangeAt Go.RowKit
set_option maxRecDepth 100000 in
theorem setSays_lifted (os : Os) (started : os.Started) (H : Type) (enc : TypeId × Value → H) :
    ReturnsInHanded {} Tryd.checked os 8 .any (fun w args => (Rows.setSaysSpec.pre enc Tryd.prog Tryd.f8 [] false w args ∧ laidMetH Tryd.prog laidVars w) ∧ sizedMet enc Tryd.prog Tryd.f8 (OpenSpec.ofChange Rows.setSaysSpec) false w args)
      (Rows.setSaysSpec.post enc Tryd.prog Tryd.f8 false true false false) := by
  refine returnsInHanded_of_change_and (C := Tryd.checked) (X := fun w _ => laidMetH Tryd.prog laidVars w) (fun _ _ _ hh h => h.of_heap hh) own started (by kernel_rfl) Tryd.func8
    (ChangeSpec.witness_shaped (enc := enc) (C := Tryd.checked) (os := os) (X := fun w _ => laidMetH Tryd.prog laidVars w) false (World.doorLaid Tryd.prog 400 os) #[.slice none 0 0, .slice none 0 0, .agg #[.int .u8 0, .int .u8 0, .int .u8 0, .int .u8 0, .int .u8 0, .int .u8 0, .int .u8 0, .int .u8 0, .int .u8 0, .int .u8 0, .int .u8 0, .int .u8 0, .int .u8 0, .int .u8 0, .int .u8 0, .int .u8 0, .int .u8 0, .int .u8 0, .int .u8 0, .int .u8 0, .int .u8 0, .int .u8 0, .int .u8 0, .int .u8 0, .int .u8 0, .int .u8 0, .int .u8 0, .int .u8 0, .int .u8 0, .int .u8 0, .int .u8 0, .int .u8 0]] 8 rfl (World.shaped_of_RefB (by kernel_rfl) (by kernel_rfl)) (by kernel_rfl) (by kernel_rfl) (by kernel_rfl) (door_met os _)) ?_
  intro W base args ds gs before hval0 hW _ _ hL _
  have hval : ∀ (j : Nat) t v, Tryd.f8.params[j]? = some t → args[j]? = some v → Value.okWide Tryd.prog W .any base t v := hval0
  have hW' := hW
  obtain ⟨p, q, hA0, hV, rfl, hfz, hnd⟩ := hW
  have hA : DataW.TrodAll enc Tryd.prog W 0 (fun _ => true) true Tryd.f8.params.toList args.toList ds p := hA0
  rw [Tryd.params8] at hA hval
  obtain ⟨v0, vs0, d0, ds0, p0, g0, hargs, rfl, rfl, h0, r0⟩ := trodAll_cons hA
  obtain ⟨v1, vs1, d1, ds1, p1, g1, rfl, rfl, rfl, h1, r1⟩ := trodAll_cons r0
  obtain ⟨v2, vs2, d2, ds2, p2, g2, rfl, rfl, rfl, h2, r2⟩ := trodAll_cons r1
  obtain ⟨rfl, rfl, rfl⟩ := trodAll_nil r2
  obtain rfl : args = #[v0, v1, v2] := by cases args; simp_all
  obtain ⟨rfl, rfl⟩ := trodVars_none hV
  have k0 := h0
  have lt0 : ∀ x ∈ p0, x.block < W.heap.size := by obtain ⟨m, hm⟩ := k0; exact DataW.trod_lt m _ _ _ hm
  obtain ⟨l0, q0, c0, rfl, hc0, hq0, hs0⟩ := open_sus (hval 0 44 v0 rfl rfl) h0
  have k1 := h1
  have lt1 : ∀ x ∈ p1, x.block < W.heap.size := by obtain ⟨m, hm⟩ := k1; exact DataW.trod_lt m _ _ _ hm
  obtain ⟨l1, q1, c1, rfl, hc1, hq1, hs1⟩ := open_sus (hval 1 44 v1 rfl rfl) h1
  have k2 := h2
  have lt2 : ∀ x ∈ p2, x.block < W.heap.size := by obtain ⟨m, hm⟩ := k2; exact DataW.trod_lt m _ _ _ hm
  obtain ⟨s2, rfl⟩ := open_su (hval 2 23 v2 rfl rfl) h2
  clear hA0 hval0
  refine (setSays_law l0 l1 s2 q0 q1 c0 c1 W (of_laid hL) hs0 hs1).mono fun e W' ⟨he, bel⟩ => ?_
  subst he
  exact ⟨_, rfl, _, _, _, [], _, [], hW', trodAll_mk1 (shut_bool Tryd.underlying4 _), (trodAll_cons_mk (Below.trod laidOut (by kernel_rfl) (of_decide_eq_true (by kernel_rfl)) k0 bel lt0) (trodAll_cons_mk (Below.trod laidOut (by kernel_rfl) (of_decide_eq_true (by kernel_rfl)) k1 bel lt1) (trodAll_cons_mk (Below.trod laidOut (by kernel_rfl) (of_decide_eq_true (by kernel_rfl)) k2 bel lt2) trodAll_mk0))), rfl, bel.frame _, fun h => by cases h⟩
theorem setSays_row : Rows.SetSaysSaid :=
  OpenClaim.holds_of_wide 8 Tryd.f8 rfl rfl rfl rfl rfl rfl rfl ⟨rfl, rfl, rfl, rfl, rfl⟩ rfl rfl rfl rfl rfl (by kernel_rfl) Tryd.func8 (by kernel_rfl)
    (of_decide_eq_true (by kernel_rfl)) (by unfold Func.isWrapper; first | (rw [if_pos (by decide +kernel)]; kernel_rfl) | (rw [if_neg (by decide +kernel)]; exact ⟨rfl, rfl⟩))
    (fun os started H enc _ => setSays_lifted os started H enc)
theorem setSays_holds : Rows.SetSaysCardSaid :=
  Claim7.holds_tied_plain_at .later [] [.data, .data] true Rows.setSaysCard.stood.harness Rows.setSaysCard.stood.looks
    setSays_row (fun _ h => by cases h) (by kernel_rfl) (fun _ h => by cases h) setSays_row_tie rfl ⟨rfl, rfl⟩ (by kernel_rfl) rfl
    (fun f fn hf hfn => by
      obtain rfl : f = 8 := Option.some.inj ((show Tryd.prog.funcNamed "tallyman/tallymanlaw10.SetSays" = some 8 by kernel_rfl).symm.trans hf) |>.symm
      obtain rfl : fn = Tryd.f8 := (Option.some.inj (Tryd.func8.symm.trans hfn)).symm
      exact ⟨by kernel_rfl, fun j t ht => by
        rw [Tryd.params8] at ht
        have hm : t ∈ [44, 44, 23] := by simpa using Array.mem_of_getElem? ht
        have hall : ([44, 44, 23].all fun u => !Tryd.prog.wantsStandIn u) = true := by kernel_rfl
        exact (show Tryd.prog.wantsStandIn t = false by simpa using List.all_eq_true.1 hall t hm)⟩)
    (by kernel_rfl)
#print axioms setSays_holds
end Go.Proofs.YtihkbblapfjobaaDoor
