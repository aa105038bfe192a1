/- The walk of the law SumParts: it returns true, and writes nothing that was there. Conditions: the variables as laid; the arguments read as a list of bytes, a list of ints. -/
import Derived.Test.YtlcclboiocodpaaDoorAwake
import Derived.Test.YtlcclboiocodpaaDoorEql
namespace Go.Proofs.YtlcclboiocodpaaDoor
open Go.RowKit
/-- Slice values that read as lists of bytes. -/
def AreParts (w : World) (b : Nat) (xs : List Value) (ps : List (List (BitVec 8))) : Prop :=
  xs.length = ps.length ∧ ∀ i, i < ps.length → ∃ q c, xs[i]? = some (.slice q (ps.getD i []).length c) ∧ (ps.getD i []).length ≤ c ∧ Sees w b q ((ps.getD i []).map u8v)
theorem AreParts.snoc {w : World} {b : Nat} {xs : List Value} {ps : List (List (BitVec 8))} (h : AreParts w b xs ps) {q : Option Addr} {c : Nat} {p : List (BitVec 8)} (hc : p.length ≤ c) (hs : Sees w b q (p.map u8v)) :
    AreParts w b (xs ++ [.slice q p.length c]) (ps ++ [p]) := by
  refine ⟨by simp [h.1], fun i hi => ?_⟩
  rcases Nat.lt_or_ge i ps.length with h1 | h1
  · obtain ⟨q', c', e1, e2, e3⟩ := h.2 i h1
    refine ⟨q', c', ?_⟩
    rw [List.getElem?_append_left (by rw [h.1]; exact h1), List.getD_eq_getElem?_getD, List.getElem?_append_left h1, ← List.getD_eq_getElem?_getD]
    exact ⟨e1, e2, e3⟩
  · have : i = ps.length := by simp at hi; omega
    subst this
    refine ⟨q, c, ?_⟩
    rw [List.getElem?_append_right (by rw [h.1]; exact Nat.le_refl _), List.getD_eq_getElem?_getD, List.getElem?_append_right (Nat.le_refl _)]
    simp [h.1, hc, hs]
theorem AreParts.nil (w : World) (b : Nat) : AreParts w b [] [] := ⟨rfl, fun _ h => absurd h (by simp)⟩
theorem take_more (b : List (BitVec 8)) (f c : Nat) (h : f ≤ c) : b.take f ++ (b.drop f).take (c - f) = b.take c := by
  rw [← List.take_add]; congr 1; omega
theorem Sees.part {w : World} {bb : Nat} {a0 : Option Addr} {b : List (BitVec 8)} (h : Sees w bb a0 (b.map u8v)) {cap f : Nat} (hc : b.length ≤ cap) (n : Nat) :
    Sees w bb (if cap = f then a0 else a0.map (·.add f)) (((b.drop f).take n).map u8v) := by
  have := (h.cut (k := f) (cap := cap) (by simpa using hc)).head n
  rwa [← List.map_drop, ← List.map_take] at this
theorem sl_info : (Tryd.prog.info? 30).map (fun i => (i.zero, i.size, i.bytes)) = some (some (.slice none 0 0), 1, 24) := by kernel_rfl
/-- What 'b[from:to]' is. -/
def cutQ (a : Option Addr) (cap k : Nat) : Option Addr := if cap = k then a else a.map (·.add k)

theorem cut_run (a : Option Addr) (n cap f c : Nat) (h1 : f ≤ c) (h2 : c ≤ cap) (w : World) :
    (Instr.slice 30 (.slice a n cap) (some (.int .i64 (f : Int))) (some (.int .i64 (c : Int))) none).run Tryd.prog w = .ok (.slice (cutQ a cap f) (c - f) (cap - f)) w := by
  obtain ⟨i0, hi, _, hz1, _⟩ := info_parts u8_info
  have he : Tryd.prog.elem 30 = 5 := by kernel_rfl
  rw [run_slice_lh (ht := by rw [he]; exact Tryd.underlying30) (h0 := by omega) (h1 := by omega) (h2 := by omega), he]
  simp [sizeOf, typeInfo, hi, hz1, sliced, cutQ]
theorem cut_run_from (a : Option Addr) (n cap f : Nat) (h1 : f ≤ n) (w : World) :
    (Instr.slice 30 (.slice a n cap) (some (.int .i64 (f : Int))) none none).run Tryd.prog w = .ok (.slice (cutQ a cap f) (n - f) (cap - f)) w := by
  obtain ⟨i0, hi, _, hz1, _⟩ := info_parts u8_info
  have he : Tryd.prog.elem 30 = 5 := by kernel_rfl
  rw [run_slice_l (ht := by rw [he]; exact Tryd.underlying30) (h0 := by omega) (h1 := by omega), he]
  simp [sizeOf, typeInfo, hi, hz1, sliced, cutQ]
theorem new_one (w : World) (v : Value) (e : TypeId) : ∀ j u, [v][j]? = some u → (w.alloc (.cells #[v] e)).cell? ((⟨w.heap.size, 0, none⟩ : Addr).add j) = some u := fun j u hj => by
  rw [Addr.add_mid]
  exact ((Has.made' w e #[v] [v] rfl).cell (0 + j)).trans (by rw [Nat.zero_add]; exact hj)
set_option maxHeartbeats 1000000 in
set_option maxRecDepth 100000 in
theorem parts_any (b : List (BitVec 8)) (a0 : Option Addr) (cap0 : Nat) (zs : List Int) (a1 : Option Addr) (len1 cap1 : Nat) (w : World)
    (hb : Sees w w.heap.size a0 (b.map u8v)) (hc0 : b.length ≤ cap0) (hz : 0 < len1 → ∃ a, a1 = some a ∧ a.block < w.heap.size ∧ ∀ i, i < len1 → w.cell? (a.add i) = some (.int .i64 (zs.getD i 0)))
    (hzb : ∀ i, -9223372036854775808 ≤ zs.getD i 0 ∧ zs.getD i 0 ≤ 9223372036854775807) (hlm : len1 ≤ maxLen) (hL : Laid w) :
    Calls Tryd.prog 6 #[.slice a0 b.length cap0, .slice a1 len1 cap1] w fun e w' => e = .returned (.bool true) ∧ Below w.heap.size w w' := by
  unfold maxLen at hlm
  have HB := Lib.hid hb
  have HZ := Lib.hid hz
  have HZB := Lib.hid hzb
  have HL := Lib.hid hL
  have hsz := hL.size
  obtain ⟨i0, hi, hz0, hz1, hz2⟩ := info_parts sl_info
  have HI := Lib.hid hi
  have HI2 := Lib.hid (And.intro hz0 (And.intro hz1 hz2))
  clear hb hz hzb hL hi hz0 hz1 hz2
  by_cases hbig : 2000 < b.length
  · go_enter Tryd.func6, Tryd.ntmps6
    go_wp2_with fail
    refine (awake_any w HL.out).mono ?_
    rintro e w1 ⟨rfl, hB1⟩
    go_wp2_with fail
    go_ret
    exact ⟨rfl, hB1⟩
  by_cases hbig2 : 20 < len1
  · have K : ¬ (2000 : Int) < (b.length : Int) := by omega
    go_enter Tryd.func6, Tryd.ntmps6
    go_wp2_with fail
    refine (awake_any w HL.out).mono ?_
    rintro e w1 ⟨rfl, hB1⟩
    go_wp2_with fail
    go_ret
    exact ⟨rfl, hB1⟩
  have K1 : ¬ (2000 : Int) < (b.length : Int) := by omega
  have K2 : ¬ (20 : Int) < (len1 : Int) := by omega
  go_enter Tryd.func6, Tryd.ntmps6
  go_wp2_with fail
  refine (awake_any w HL.out).mono ?_
  rintro e w1 ⟨rfl, hB1⟩
  go_wp2_with fail
  go_loopw [5, 6, 7] (fun v f i wr => ∃ (k fr : Nat) (ps : List (List (BitVec 8))) (xs : List Value), k ≤ len1 ∧ i = .int .i64 k ∧ f = .int .i64 fr ∧ fr ≤ b.length ∧ wr.ownsRow w.heap.size 30 1 v ps.length xs ∧
      AreParts w w.heap.size xs ps ∧ ps.flatten = b.take fr ∧ ps.length ≤ k ∧ Below w.heap.size w wr)
    (fun _ _ i _ => len1 - (intOf i).toNat)
  case atStart => exact ⟨0, 0, [], [], by omega, rfl, rfl, by omega, World.ownsRow_nil _ _ _ _, AreParts.nil _ _, by simp, by simp, hB1⟩
  case round =>
    clear hB1
    rename_i wr
    obtain ⟨k, fr, ps, xs, hk, rfl, rfl, hfr, ho, hp, hfl, hpl, hB⟩ := hrel
    have HO := Lib.hid ho
    have HP := Lib.hid hp
    have HF := Lib.hid hfl
    clear ho hp hfl
    by_cases hlt : k < len1
    · obtain ⟨A1, rfl, hA1, hcells⟩ := HZ.out (by omega)
      have hcz : wr.cell? (A1.add k) = some (.int .i64 (zs.getD k 0)) := (hB.cell (by rw [add_block]; exact hA1)).trans (hcells k hlt)
      have hzk := HZB.out k
      generalize hzz : zs.getD k 0 = z at *
      clear hcells hzz
      by_cases hz1 : (fr : Int) ≤ z ∧ z ≤ (b.length : Int)
      · obtain ⟨c, rfl⟩ := Int.eq_ofNat_of_zero_le (show 0 ≤ z by omega)
        obtain ⟨hz1, hz2⟩ := hz1
        have hcut := cut_run a0 b.length cap0 fr c (by omega) (by omega)
        go_upto_region 11 with (fail)
        obtain ⟨pc, hpc⟩ : ∃ pc, pc = (b.drop fr).take (c - fr) := ⟨_, rfl⟩
        have hpl2 : pc.length = c - fr := by rw [hpc, List.length_take, List.length_drop]; omega
        have hsee := (HB.out.part (f := fr) hc0 (c - fr))
        rw [← hpc] at hsee
        have hfl2 : (ps ++ [pc]).flatten = b.take c := by rw [List.flatten_append, HF.out, hpc]; simpa using take_more b fr c (by omega)
        have hcc : pc.length ≤ cap0 - fr := by omega
        rw [← hpl2] at hcut
        have Hsee := Lib.hid hsee
        have Hfl2 := Lib.hid hfl2
        have Hcc := Lib.hid hcc
        clear hpc hsee hfl2 hpl2 hcc
        have HNEW := Lib.hid (new_one wr (.slice (cutQ a0 cap0 fr) pc.length (cap0 - fr)) 30)
        have HONE : Hid (∀ u ∈ [Value.slice (cutQ a0 cap0 fr) pc.length (cap0 - fr)], u.oneCell' = true) := Lib.hid (fun u hu => by have := List.mem_singleton.1 hu; subst this; rfl)
        have HML : Hid (ps.length + 1 ≤ maxLen) := Lib.hid (by unfold maxLen; omega)
        have HBY : Hid ((ps.length + 1) * 24 ≤ 140737488355328) := Lib.hid (by omega)
        have HBS : Hid (w.heap.size ≤ (wr.alloc (.cells #[.slice (cutQ a0 cap0 fr) pc.length (cap0 - fr)] 30)).heap.size) := Lib.hid (by simp; have := hB.size; omega)
        go_upto_region 12 with
          (at_builtin
           refine wpList_append_own _ rfl (.tmp 39) (.tmp 47) 46 rfl w.heap.size 30 i0 (.slice none 0 0) 1 24 Tryd.underlying46 HI.out HI2.out.1 HI2.out.2.1 HI2.out.2.2 rfl (by decide)
             _ ps.length xs rfl (HO.out.alloc _) ⟨wr.heap.size, 0, none⟩ 1 1 [.slice (cutQ a0 cap0 fr) pc.length (cap0 - fr)] rfl rfl
             HNEW.out HONE.out HML.out HBY.out HBS.out ?_
           intro v' w' ho' hg' _
           have hB' : Below w.heap.size w w' := ((hB.alloc hB.size _)).grown hg' (by simp; have := hB.size; omega) (fun bb hbb => own_base HO.out bb hbb)
           have HO' := Lib.hid ho'
           have hcz' : w'.cell? (A1.add k) = some (.int .i64 (c : Int)) := (hB'.cell (by rw [add_block]; exact hA1)).trans ((hB.cell (by rw [add_block]; exact hA1)).symm.trans hcz)
           clear ho' hg')
        go_wp2_with fail
        go_roundw
        case rel =>
          refine ⟨k + 1, c, ps ++ [pc], xs ++ [.slice (cutQ a0 cap0 fr) pc.length (cap0 - fr)], by omega, by go_num, rfl, by omega, ?_, ?_, Hfl2.out, by simp; omega, hB'⟩
          · rw [List.length_append]; exact HO'.out
          · exact HP.out.snoc Hcc.out Hsee.out
        case measure => simp [intOf]; omega
      · by_cases hz2 : (fr : Int) ≤ z
        · have hz3 : ¬ z ≤ (b.length : Int) := by omega
          go_wp2_with fail
          go_roundw
          case rel => exact ⟨k + 1, fr, ps, xs, by omega, by go_num, rfl, hfr, HO.out, HP.out, HF.out, by omega, hB⟩
          case measure => simp [intOf]; omega
        · go_wp2_with fail
          go_roundw
          case rel => exact ⟨k + 1, fr, ps, xs, by omega, by go_num, rfl, hfr, HO.out, HP.out, HF.out, by omega, hB⟩
          case measure => simp [intOf]; omega
    · have : k = len1 := by omega
      subst this
      clear hlt
      obtain ⟨pc, hpc⟩ : ∃ pc, pc = b.drop fr := ⟨_, rfl⟩
      have hpl2 : pc.length = b.length - fr := by rw [hpc, List.length_drop]
      have hsee := (HB.out.part (f := fr) hc0 (b.length - fr))
      rw [List.take_of_length_le (by rw [List.length_drop]; exact Nat.le_refl _), ← hpc] at hsee
      have hfl2 : (ps ++ [pc]).flatten = b := by rw [List.flatten_append, HF.out, hpc]; simp
      have hcc : pc.length ≤ cap0 - fr := by omega
      have hcut := cut_run_from a0 b.length cap0 fr hfr
      rw [← hpl2] at hcut
      have Hsee := Lib.hid hsee
      have Hfl2 := Lib.hid hfl2
      have Hcc := Lib.hid hcc
      clear hpc hsee hfl2 hpl2 hcc
      have HNEW := Lib.hid (new_one wr (.slice (cutQ a0 cap0 fr) pc.length (cap0 - fr)) 30)
      have HONE : Hid (∀ u ∈ [Value.slice (cutQ a0 cap0 fr) pc.length (cap0 - fr)], u.oneCell' = true) := Lib.hid (fun u hu => by have := List.mem_singleton.1 hu; subst this; rfl)
      have HML : Hid (ps.length + 1 ≤ maxLen) := Lib.hid (by unfold maxLen; omega)
      have HBY : Hid ((ps.length + 1) * 24 ≤ 140737488355328) := Lib.hid (by omega)
      have HBS : Hid (w.heap.size ≤ (wr.alloc (.cells #[.slice (cutQ a0 cap0 fr) pc.length (cap0 - fr)] 30)).heap.size) := Lib.hid (by simp; have := hB.size; omega)
      go_upto_region 14 with
        (at_builtin
         refine wpList_append_own _ rfl (.tmp 53) (.tmp 57) 46 rfl w.heap.size 30 i0 (.slice none 0 0) 1 24 Tryd.underlying46 HI.out HI2.out.1 HI2.out.2.1 HI2.out.2.2 rfl (by decide)
           _ ps.length xs rfl (HO.out.alloc _) ⟨wr.heap.size, 0, none⟩ 1 1 [.slice (cutQ a0 cap0 fr) pc.length (cap0 - fr)] rfl rfl
           HNEW.out HONE.out HML.out HBY.out HBS.out ?_
         intro v' w' ho' hg' _
         have hB' : Below w.heap.size w w' := ((hB.alloc hB.size _)).grown hg' (by simp; have := hB.size; omega) (fun bb hbb => own_base HO.out bb hbb)
         have HO' := Lib.hid ho'
         clear ho' hg')
      have hgp := HP.out.snoc Hcc.out Hsee.out
      obtain ⟨gg, cap, cur, rfl, hg0, hg1, hg2, hg3, hg4, hg5⟩ := (HO'.out.2).resolve_left (by rintro ⟨_, h⟩; omega)
      have hlen : (ps ++ [pc]).length = ps.length + 1 := by simp
      have hpar : Parts w' w'.heap.size (some ⟨gg, 0, none⟩) (ps ++ [pc]) := fun i hi => by
        obtain ⟨q, c, e1, e2, e3⟩ := hgp.2 i hi
        refine ⟨_, q, c, rfl, (Array.getElem?_eq_some_iff.1 hg1).1, HO'.out.cells (g := gg) rfl i _ e1, e2, (e3.keep hB').more hB'.size⟩
      have HC := of_any (ps ++ [pc]) (some ⟨gg, 0, none⟩) cap w' hpar (by rw [hlen]; omega) (by rw [Hfl2.out]; omega) (HL.out.keep hB' hsz)
      rw [hlen, Hfl2.out] at HC
      replace HC := Lib.hid HC
      clear hgp hpar hlen hg1 hg5
      go_wp2_with fail
      refine HC.out.mono ?_
      rintro e w2 ⟨rfl, hb2⟩
      have hB2 := hB'.trans (hb2.mono hB'.size)
      clear hb2
      go_wp2_with fail
      have HB3 : Parts (w2.alloc (.cells #[.slice a0 b.length cap0] 30)) (w2.alloc (.cells #[.slice a0 b.length cap0] 30)).heap.size (some ⟨w2.heap.size, 0, none⟩) [b] := fun i hi => by
        have hi : i = 0 := by simpa using hi
        subst hi
        have hn := Has.made' w2 30 #[.slice a0 b.length cap0] [.slice a0 b.length cap0] rfl
        exact ⟨_, a0, cap0, rfl, hn.lt, hn.cellv (i := 0) rfl, hc0, (HB.out.keep (hB2.alloc hB2.size _)).more (by simp; have := hB2.size; omega)⟩
      have HC2 := of_any [b] (some ⟨w2.heap.size, 0, none⟩) 1 _ HB3 (by simp) (by simp; omega) (HL.out.keep (hB2.alloc hB2.size _) hsz)
      have e1 : ([b] : List (List (BitVec 8))).flatten = b := by simp
      rw [e1] at HC2
      refine HC2.mono ?_
      rintro e w3 ⟨rfl, hb3⟩
      have hB3 : Below w.heap.size w w3 := (hB2.alloc hB2.size _).trans (hb3.mono (by simp; have := hB2.size; omega))
      have heq := arr_eql 24 Tryd.underlying24 (sha b) (sha b) (sha_length _) (sha_length _)
      simp only [decide_true] at heq
      generalize (sha b).map u8v = X at *
      clear HC2 HB3 e1 hb3 HC
      go_wp2_with fail
      go_ret
      exact ⟨rfl, hB3⟩
end Go.Proofs.YtlcclboiocodpaaDoor
