/- Contract: sum.Sum.Text. Condition: thirty-two bytes. -/
import Derived.Test.YtgaphplndpdhaaaDoorOf
import Derived.Laws.OwnMore
namespace Go.Proofs.YtgaphplndpdhaaaDoor
open Go.RowKit
/-- A digit of base sixteen; a text of bytes. -/
def hexd (x : BitVec 8) : BitVec 8 := if x < 10 then x + 48 else x + 87
def textOf (l : List (BitVec 8)) : List (BitVec 8) := l.flatMap fun x : BitVec 8 => [hexd (x >>> 4), hexd (x &&& 15)]
def strB (l : List (BitVec 8)) : ByteArray := ⟨(l.map UInt8.ofBitVec).toArray⟩
theorem textOf_succ (l : List (BitVec 8)) (k : Nat) (h : k < l.length) : textOf (l.take (k + 1)) = textOf (l.take k) ++ [hexd (at8 l k >>> 4), hexd (at8 l k &&& 15)] := by
  unfold textOf
  rw [List.take_succ_eq_append_getElem h, List.flatMap_append]
  congr 1
  simp [at8, List.getD_eq_getElem?_getD, List.getElem?_eq_getElem h]
theorem textOf_length (l : List (BitVec 8)) : (textOf l).length = 2 * l.length := by
  induction l with
  | nil => rfl
  | cons x l ih => simp [textOf] at ih ⊢; omega
theorem strB_of (l : List (BitVec 8)) : (l.map B).foldl (fun r n => r.push (UInt8.ofNat n.toNat)) ByteArray.empty = strB l := by
  have h : ∀ (l : List (BitVec 8)) (b : ByteArray), (l.map B).foldl (fun r n => r.push (UInt8.ofNat n.toNat)) b = ⟨(b.data.toList ++ l.map UInt8.ofBitVec).toArray⟩ := by
    intro l
    induction l with
    | nil => intro b; simp
    | cons x l ih =>
      intro b
      rw [List.map_cons, List.foldl_cons, ih]
      have e : UInt8.ofNat (B x).toNat = UInt8.ofBitVec x := by unfold B; simp
      rw [e]
      simp [ByteArray.push]
  rw [h]; rfl
theorem u8_info : (Tryd.prog.info? 5).map (fun i => (i.zero, i.size, i.bytes)) = some (some (.int .u8 0), 1, 1) := by kernel_rfl
theorem arr_index (T : TypeId) (hT : Tryd.prog.underlying T = some (.array 32 5)) (l : List (BitVec 8)) (hl : l.length = 32) (k : Nat) (hk : k < 32) (w : World) :
    (Instr.index T (.agg (l.map u8v).toArray) (.int .i64 (k : Int))).run Tryd.prog w = .ok (.int .u8 (B (at8 l k))) w := by
  obtain ⟨i0, hi, _, hz1, _⟩ := info_parts u8_info
  have h := at8_of l k (by omega)
  rw [List.getElem?_map] at h
  unfold Instr.index
  simp [asIntOf, run_underlying hT, hk, part, isAgg, run_underlying Tryd.underlying5, sizeOf, typeInfo, hi, hz1, h]

theorem hex_index_nat (n : Nat) (hn : n < 16) (w : World) :
    (Instr.index 9 (.string ⟨#[48, 49, 50, 51, 52, 53, 54, 55, 56, 57, 97, 98, 99, 100, 101, 102]⟩) (.int .u8 (n : Int))).run Tryd.prog w = .ok (.int .u8 (B (hexd (BitVec.ofNat 8 n)))) w := by
  have : n = 0 ∨ n = 1 ∨ n = 2 ∨ n = 3 ∨ n = 4 ∨ n = 5 ∨ n = 6 ∨ n = 7 ∨ n = 8 ∨ n = 9 ∨ n = 10 ∨ n = 11 ∨ n = 12 ∨ n = 13 ∨ n = 14 ∨ n = 15 := by omega
  rcases this with rfl | rfl | rfl | rfl | rfl | rfl | rfl | rfl | rfl | rfl | rfl | rfl | rfl | rfl | rfl | rfl <;> (rw [run_index_string (h := Tryd.underlying9)]; rfl)
theorem hex_index (x : BitVec 8) (hx : x.toNat < 16) (w : World) :
    (Instr.index 9 (.string ⟨#[48, 49, 50, 51, 52, 53, 54, 55, 56, 57, 97, 98, 99, 100, 101, 102]⟩) (.int .u8 (B x))).run Tryd.prog w = .ok (.int .u8 (B (hexd x))) w := by
  have := hex_index_nat x.toNat hx w
  rwa [BitVec.ofNat_toNat, BitVec.setWidth_eq] at this
theorem B_sr4 (x : BitVec 8) (yk : IntKind) : Op.shift .shr .u8 (B x) yk 4 = pure (.int .u8 (B (x >>> 4))) := by
  rw [shift_shr_any _ _ _ _ (by omega), show min ((4 : Int).toNat) IntKind.u8.bits = 4 from rfl, B_shr]
theorem B_and15 (x : BitVec 8) : bits .and .u8 (B x) 15 = B (x &&& 15) := B_and x 15
theorem sum_info : (Tryd.prog.info? 25).map (·.size) = some 32 := by kernel_rfl
theorem own_base {w : World} {base n : Nat} {e : TypeId} {v : Value} {xs : List Value} (h : w.ownsRow base e 1 v n xs) : ∀ k, v.ownBlock = some k → base ≤ k := by
  intro k hk
  rcases h.2 with ⟨rfl, _⟩ | ⟨g, cap, cur, rfl, hb, _⟩
  · simp [Value.ownBlock] at hk
  · simp [Value.ownBlock] at hk; omega
def mk64 : List Value := List.replicate 64 (.int .u8 0)
theorem mk64_run (w : World) : (Instr.makeSlice 22 (.int .i64 0) (.int .i64 64)).run Tryd.prog w = .ok (.slice (some ⟨w.heap.size, 0, none⟩) 0 64) (w.alloc (.cells mk64.toArray 5)) := by kernel_rfl

section
attribute [local go_sem] B_and15
set_option maxHeartbeats 1000000 in
theorem text_any (l : List (BitVec 8)) (hl : l.length = 32) (w : World) :
    Calls Tryd.prog 9 #[.agg (l.map u8v).toArray] w fun e w' => e = .returned (.string (strB (textOf l))) ∧ Below w.heap.size w w' := by
  obtain ⟨i0, hi, hz0, hz1, hz2⟩ := info_parts u8_info
  obtain ⟨cs, hcs⟩ : ∃ cs, cs = l.map u8v := ⟨_, rfl⟩
  rw [← hcs]
  have hix : ∀ k : Nat, k < 32 → ∀ w', (Instr.index 25 (.agg cs.toArray) (.int .i64 (k : Int))).run Tryd.prog w' = .ok (.int .u8 (B (at8 l k))) w' := fun k hk w' => by
    rw [hcs]; exact arr_index _ Tryd.underlying25 l hl k hk w'
  have HIX := Lib.hid hix
  have HI := Lib.hid hi
  have HZ := Lib.hid (And.intro hz0 (And.intro hz1 hz2))
  have HSZ : Hid ((Tryd.prog.info? 25).map (·.size) = some cs.toArray.size) := Lib.hid (by rw [sum_info, hcs]; simp [hl])
  have Hcs := Lib.hid hcs
  have Hl := Lib.hid hl
  have hmk := mk64_run
  have sh4 := B_sr4
  clear hix hi hz0 hz1 hz2 hcs hl
  go_enter Tryd.func9, Tryd.ntmps9
  go_upto_region 2 with (fail)
  clear hmk
  generalize hw0 : (w.alloc _).alloc _ = w0
  have h1 : Has w0 w.heap.size 25 cs := by subst hw0; exact (Has.made' _ _ _ _ rfl).alloc _
  have ho : w0.ownsRow (w.heap.size + 1) 5 1 (.slice (some ⟨w.heap.size + 1, 0, none⟩) 0 64) 0 [] := by
    subst hw0
    exact ⟨rfl, .inr ⟨w.heap.size + 1, 64, mk64.toArray, rfl, Nat.le_refl _, (Has.made1 _ _ _ _ _ rfl), by omega, by unfold maxLen; omega, by simp [mk64], by simp⟩⟩
  have hB : Below w.heap.size w w0 := by subst hw0; exact ((Below.refl _ _).alloc (Nat.le_refl _) _).alloc (by simp) _
  have hz0 : w.heap.size + 1 < w0.heap.size := by subst hw0; simp
  clear hw0
  go_wp2_with (refine wpList_load_row rfl 25 _ rfl w.heap.size rfl 25 _ (0, 0) _ h1 Tryd.underlying25 rfl HSZ.out ?_)
  clear h1
  have ho' : w0.ownsRow (w.heap.size + 1) 5 1 (.slice (some ⟨w.heap.size + 1, 0, none⟩) 0 64) (2 * 0) ((textOf (l.take 0)).map u8v) := ho
  clear ho
  go_loopw [3, 8] (fun v i wr => ∃ k : Nat, k ≤ 32 ∧ i = .int .i64 k ∧ wr.ownsRow (w.heap.size + 1) 5 1 v (2 * k) ((textOf (l.take k)).map u8v) ∧ Below w.heap.size w wr ∧ w.heap.size + 1 < wr.heap.size)
    (fun _ i _ => 32 - (intOf i).toNat)
  case atStart => exact ⟨0, by omega, rfl, ho', hB, hz0⟩
  case round =>
    clear ho' hB hz0
    rename_i wr
    obtain ⟨k, hk, rfl, ho, hB, hz0⟩ := hrel
    by_cases hlt : k < 32
    · have hi0 := HIX.out k hlt
      have hts := textOf_succ l k (by rw [Hl.out]; exact hlt)
      generalize at8 l k = x at *
      have hx1 : (x >>> 4).toNat < 16 := by rw [BitVec.toNat_ushiftRight, Nat.shiftRight_eq_div_pow]; have := x.isLt; omega
      have hx2 : (x &&& 15#8).toNat < 16 := by rw [BitVec.toNat_and]; exact Nat.lt_of_le_of_lt Nat.and_le_right (by decide)
      have i1 := hex_index (x >>> 4) hx1
      have i2 := hex_index (x &&& 15#8) hx2
      have Hts := Lib.hid hts
      have HO := Lib.hid ho
      clear hts hx1 hx2 ho
      go_wp2_with fail
      refine wp_region_ord [(0, true), (1, true), (2, true), (3, true), (4, true), (5, true), (6, true), (7, false), (8, false), (9, true)] (by kernel_rfl) (by kernel_rfl) (by kernel_rfl) ?_
      simp only [pickOps, List.getElem?_cons_zero, List.getElem?_cons_succ]
      (repeat (refine ord_pure (v := ?_) (by rfl) ?_ ?_; rotate_left; (· intro w'; go_simp; try with_reducible rfl); try simp only [Act.put, List.setIfInBounds_toArray, List.set_cons_zero, List.set_cons_succ]))
      clear i1 i2 hi0
      refine ord_step (by rfl) (fun K hK => ?_)
      go_wp2_with fail
      refine ord_step (by rfl) (fun K hK => ?_)
      refine wp_append_own _ (.tmp 11) (.tmp 18) 22 rfl (w.heap.size + 1) 5 i0 (.int .u8 0) 1 1 Tryd.underlying22 HI.out HZ.out.1 HZ.out.2.1 HZ.out.2.2 rfl (by decide)
        u3 (2 * k) ((textOf (l.take k)).map u8v) rfl ((HO.out.alloc _).drew) ⟨wr.heap.size, 0, none⟩ 2 2 [.int .u8 (B (hexd (x >>> 4))), .int .u8 (B (hexd (x &&& 15#8)))] rfl rfl ?_ ?_ ?_ ?_ ?_ ?_
      · intro j u hj
        rw [Addr.add_mid]
        exact ((Has.made' wr _ _ _ rfl).drew.cell (0 + j)).trans (by rw [Nat.zero_add]; exact hj)
      · intro u hu
        simp at hu
        rcases hu with rfl | rfl <;> rfl
      · unfold maxLen; omega
      · omega
      · simp; omega
      · intro v' w' ho' hg' _
        have hB' : Below w.heap.size w w' := ((hB.alloc (by omega) _).drew).grown hg' (by simp; omega) (fun b hb => by have := own_base HO.out b hb; omega)
        have hz' : w.heap.size + 1 < w'.heap.size := by have := hg'.size; simp at this; omega
        have HO' := Lib.hid ho'
        clear ho' hg'
        go_wp2_with fail
        (repeat (refine ord_pure (v := ?_) (by rfl) ?_ ?_; rotate_left; (· intro w'; go_simp; try with_reducible rfl); try simp only [Act.put, List.setIfInBounds_toArray, List.set_cons_zero, List.set_cons_succ]))
        refine ord_nil ?_
        go_wp2_with fail
        go_roundw
        case rel =>
          refine ⟨k + 1, by omega, by go_num, ?_, hB', hz'⟩
          rw [Hts.out, List.map_append]
          exact HO'.out
        case measure => simp [intOf]; omega
    · have : k = 32 := by omega
      subst this
      clear hlt
      rw [List.take_of_length_le (by rw [Hl.out]; exact Nat.le_refl _)] at ho
      obtain ⟨g, cap, cur, rfl, hg0, hg1, hg2, hg3, hg4, hg5⟩ := (ho.2).resolve_left (by rintro ⟨_, h⟩; omega)
      have hcv : (loadCells ⟨g, 0, none⟩ 64).run Tryd.prog wr = .ok (((textOf l).map B).map (Value.int .u8)).toArray wr := by
        have e1 : ((textOf l).map B).map (Value.int .u8) = (textOf l).map u8v := by rw [List.map_map]; rfl
        have e2 : ((textOf l).map u8v).length = 64 := by rw [List.length_map, textOf_length, Hl.out]
        rw [e1]
        have := run_loadCells_list (P := Tryd.prog) wr ⟨g, 0, none⟩ ((textOf l).map u8v) (ho.cells (g := g) rfl)
        rw [e2] at this
        exact this
      have hbs := (run_convert_bytes_string (P := Tryd.prog) wr 22 9 5 (some ⟨g, 0, none⟩) 64 cap Tryd.underlying22 Tryd.underlying5 Tryd.underlying9).trans (run_bytesToString wr _ 64 cap _ hcv)
      rw [strB_of] at hbs
      clear hcv
      go_wp2_with fail
      go_ret
      exact ⟨rfl, hB⟩
end
end Go.Proofs.YtgaphplndpdhaaaDoor
