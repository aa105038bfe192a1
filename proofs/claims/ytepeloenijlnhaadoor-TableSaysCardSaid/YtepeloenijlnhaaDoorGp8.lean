/- Byte slices that read as lists: as strings, cut, appended, made. Condition: a nil slice has no capacity. -/
import Derived.Test.YtepeloenijlnhaaDoorProg
import Derived.Test.YtepeloenijlnhaaDoorGp14
import Derived.Laws.Rows
import Derived.Laws.AppendOwnNone
import Derived.Laws.MakeOwn
import Derived.Lib.LazyBuf
import Derived.Laws.BytesString
import Derived.Tactics
import Derived.Test.YtepeloenijlnhaaDoorSha
import Derived.Test.YtepeloenijlnhaaDoorMem
import Derived.Test.YtepeloenijlnhaaDoorOrg
import Derived.WalkSpells
import Derived.Lib.Hide
import Derived.Laws.Tables
import Derived.Deep.DeepCutAuto
import Derived.Test.YtepeloenijlnhaaDoorFeed
namespace Go.Proofs.YtepeloenijlnhaaDoor
open Go.RowKit
theorem take_at8 (l : List (BitVec 8)) (k : Nat) (h : k < l.length) : l.take (k + 1) = l.take k ++ [at8 l k] := by
  rw [List.take_succ_eq_append_getElem h]
  simp [at8, List.getD_eq_getElem?_getD, List.getElem?_eq_getElem h]
theorem drop_at8 (l : List (BitVec 8)) (k : Nat) (h : k < l.length) : l.drop k = at8 l k :: l.drop (k + 1) := by
  rw [List.drop_eq_getElem_cons h]
  simp [at8, List.getD_eq_getElem?_getD, List.getElem?_eq_getElem h]
theorem strB_of (l : List (BitVec 8)) : (l.map B).foldl (fun r n => r.push (UInt8.ofNat n.toNat)) ByteArray.empty = strB l := by
  have h : ∀ (l : List (BitVec 8)) (b : ByteArray), (l.map B).foldl (fun r n => r.push (UInt8.ofNat n.toNat)) b = ⟨(b.data.toList ++ l.map UInt8.ofBitVec).toArray⟩ := by
    intro l
    induction l with
    | nil => intro b; simp
    | cons x l ih =>
      intro b
      rw [List.map_cons, List.foldl_cons, ih]
      have e : UInt8.ofNat (B x).toNat = UInt8.ofBitVec x := by unfold B; simp
      rw [e]
      simp [ByteArray.push]
  rw [h]; rfl
theorem ofBitVec_inj (x y : BitVec 8) (h : UInt8.ofBitVec x = UInt8.ofBitVec y) : x = y := by injection h
theorem strB_list (l : List (BitVec 8)) : (strB l).toList = l.map UInt8.ofBitVec := by
  rw [ByteArray.toList_eq]; simp [strB]
theorem map_inj8 : ∀ (x y : List (BitVec 8)), x.map UInt8.ofBitVec = y.map UInt8.ofBitVec → x = y
  | [], [], _ => rfl
  | [], _ :: _, h => by simp at h
  | _ :: _, [], h => by simp at h
  | a :: x, b :: y, h => by
    simp only [List.map_cons, List.cons.injEq] at h
    rw [ofBitVec_inj _ _ h.1, map_inj8 x y h.2]
theorem strB_beq (x y : List (BitVec 8)) : ((strB x).toList == (strB y).toList) = decide (x = y) := by
  rw [strB_list, strB_list, Bool.eq_iff_iff, beq_iff_eq, decide_eq_true_iff]
  exact ⟨map_inj8 x y, fun h => by rw [h]⟩
theorem str_run (l : List (BitVec 8)) (q : Option Addr) (cap : Nat) (b : Nat) (w : World) (hs : Sees w b q (l.map u8v)) :
    (convert 83 9 (.slice q l.length cap)).run Tryd.prog w = .ok (.string (strB l)) w := by
  rw [run_convert_bytes_string (P := Tryd.prog) w 83 9 5 q l.length cap Tryd.underlying83 Tryd.underlying5 Tryd.underlying9]
  by_cases h0 : l = []
  · subst h0
    cases q <;> simp [Conv.bytesToString, loadCells, strB] <;> rfl
  · obtain ⟨a, rfl, _, hc⟩ := hs.get (by simpa using List.length_pos_iff.2 h0)
    have hcv : (loadCells a l.length).run Tryd.prog w = .ok ((l.map B).map (Value.int .u8)).toArray w := by
      have e1 : (l.map B).map (Value.int .u8) = l.map u8v := by rw [List.map_map]; rfl
      rw [e1]
      have := run_loadCells_list (P := Tryd.prog) w a (l.map u8v) hc
      rw [List.length_map] at this
      exact this
    rw [run_bytesToString w a l.length cap _ hcv, strB_of]
theorem u8_info : (Tryd.prog.info? 5).map (fun i => (i.zero, i.size, i.bytes)) = some (some (.int .u8 0), 1, 1) := by kernel_rfl
/-- What 'b[from:]', 'b[:to]' are. -/
def cutQ (a : Option Addr) (cap k : Nat) : Option Addr := if cap = k then a else a.map (·.add k)
theorem cut_from (a : Option Addr) (n cap f : Nat) (h1 : f ≤ n) (w : World) :
    (Instr.slice 83 (.slice a n cap) (some (.int .i64 (f : Int))) none none).run Tryd.prog w = .ok (.slice (cutQ a cap f) (n - f) (cap - f)) w := by
  obtain ⟨i0, hi, _, hz1, _⟩ := info_parts u8_info
  have he : Tryd.prog.elem 83 = 5 := by kernel_rfl
  rw [run_slice_l (ht := by rw [he]; exact Tryd.underlying83) (h0 := by omega) (h1 := by omega), he]
  simp [sizeOf, typeInfo, hi, hz1, sliced, cutQ]
theorem cut_to (a : Option Addr) (n cap t : Nat) (h1 : t ≤ cap) (w : World) :
    (Instr.slice 83 (.slice a n cap) none (some (.int .i64 (t : Int))) none).run Tryd.prog w = .ok (.slice (cutQ a cap 0) t cap) w := by
  obtain ⟨i0, hi, _, hz1, _⟩ := info_parts u8_info
  have he : Tryd.prog.elem 83 = 5 := by kernel_rfl
  rw [run_slice_h (ht := by rw [he]; exact Tryd.underlying83) (h0 := by omega) (h2 := by omega), he]
  simp [sizeOf, typeInfo, hi, hz1, sliced, cutQ]
theorem cutQ_zero (a : Option Addr) (cap : Nat) : cutQ a cap 0 = a := by
  unfold cutQ
  split
  · rfl
  · cases a <;> simp [Addr.add]
/-- The value v reads as these bytes. -/
def Bs (w : World) (v : Value) (x : List (BitVec 8)) : Prop := ∃ q c, v = .slice q x.length c ∧ x.length ≤ c ∧ (q = none → c = 0) ∧ Sees w w.heap.size q (x.map u8v)
theorem Bs.keep {w w' : World} {v : Value} {x : List (BitVec 8)} (h : Bs w v x) (hb : Below w.heap.size w w') : Bs w' v x := by
  obtain ⟨q, c, h1, h2, h3, h4⟩ := h
  exact ⟨q, c, h1, h2, h3, (h4.keep hb).more hb.size⟩
theorem Bs.nil (w : World) : Bs w (.slice none 0 0) [] := ⟨none, 0, rfl, Nat.le_refl _, fun _ => rfl, Sees.nil _ _ _⟩
theorem Bs.own {w : World} {base n : Nat} {v : Value} {x : List (BitVec 8)} (h : w.ownsRow base 5 1 v n (x.map u8v)) : Bs w v x := by
  have hn : x.length = n := by have := h.1; simpa using this
  subst hn
  rcases h.2 with ⟨rfl, h0⟩ | ⟨g, cap, cur, rfl, hb, hg, h1, _⟩
  · have : x = [] := List.eq_nil_of_length_eq_zero h0
    subst this
    exact Bs.nil w
  · refine ⟨_, cap, rfl, h1, fun h => (by cases h), fun _ => ⟨_, rfl, (Array.getElem?_eq_some_iff.1 hg).1, ?_⟩⟩
    exact h.cells (g := g) rfl
theorem own_base {w : World} {base n : Nat} {e : TypeId} {v : Value} {xs : List Value} (h : w.ownsRow base e 1 v n xs) : ∀ k, v.ownBlock = some k → base ≤ k := by
  intro k hk
  rcases h.2 with ⟨rfl, _⟩ | ⟨g, cap, cur, rfl, hb, _⟩
  · simp [Value.ownBlock] at hk
  · simp [Value.ownBlock] at hk; omega
theorem own_keep {w w' : World} {base n : Nat} {e : TypeId} {v : Value} {xs : List Value} {b : Nat} (h : w.ownsRow base e 1 v n xs) (hb : Below b w w') (hs : ∀ k, k < w.heap.size → k < b) : w'.ownsRow base e 1 v n xs := by
  refine ⟨h.1, ?_⟩
  rcases h.2 with h1 | ⟨g, cap, cur, rfl, h1, h2, h3⟩
  · exact .inl h1
  · exact .inr ⟨g, cap, cur, rfl, h1, (hb.block g (hs g (Array.getElem?_eq_some_iff.1 h2).1)).trans h2, h3⟩
theorem grown_refl (w : World) (row : Option Nat) : w.grownBy w row := ⟨rfl, rfl, rfl, Nat.le_refl _, fun _ _ _ => rfl⟩
theorem wpList_append_sees {ops : Array Oper} {rest : List Oper} {o : Oper} {a : Act} {w : World} {Q : Exit → Act → World → Prop} (hgd : o.guard = none) (s x : Operand)
    (ho : o.op = .call { callee := .builtin .append, args := #[s, x], argTypes := #[83, 83] })
    (base : Nat) (v : Value) (n : Nat) (xs : List Value) (hs : a.eval s = v) (hown : w.ownsRow base 5 1 v n xs)
    (q : Option Addr) (l : List (BitVec 8)) (cap b : Nat) (hx : a.eval x = .slice q l.length cap) (hq : q = none → cap = 0) (hl : Sees w b q (l.map u8v))
    (hbytes : n + l.length ≤ 140737488355328) (hbase : base ≤ w.heap.size)
    (h : ∀ v' w', w'.ownsRow base 5 1 v' (n + l.length) (xs ++ l.map u8v) → Below base w w' → wpList Tryd.prog ops Q rest (a.put o.dst v') w') : wpList Tryd.prog ops Q (o :: rest) a w := by
  obtain ⟨i0, hi, hz0, hz1, hz2⟩ := info_parts u8_info
  rcases q with _ | ad
  · have hl0 : l = [] := by
      rcases l with _ | ⟨y, l⟩
      · rfl
      · obtain ⟨a, h1, _⟩ := hl.get (by simp)
        cases h1
    subst hl0
    obtain rfl := hq rfl
    exact wpList_append_own_none hgd s x 83 ho base 5 i0 1 Tryd.underlying83 hi v n xs hs hown hx (h v w (by simpa using hown) (Below.refl _ _))
  · refine wpList_append_own w hgd s x 83 ho base 5 i0 (.int .u8 0) 1 1 Tryd.underlying83 hi hz0 hz1 hz2 rfl (by decide) v n xs hs hown ad l.length cap (l.map u8v) hx (by simp) (fun j u hj => ?_) (fun u hu => ?_) (by unfold maxLen; omega) (by omega) hbase (fun v' w' h1 h2 _ => ?_)
    · obtain ⟨a', h1, _, h3⟩ := hl.get (by have := (List.getElem?_eq_some_iff.1 hj).1; omega)
      cases h1
      exact h3 j u hj
    · obtain ⟨y, _, rfl⟩ := List.mem_map.1 hu
      rfl
    · exact h v' w' h1 ((Below.refl base w).grown h2 hbase (fun k hk => own_base hown k hk))
theorem made_run (n : Nat) (hn : n ≤ 281474976710656) (w : World) :
    (Instr.makeSlice 83 (.int .i64 0) (.int .i64 (n : Int))).run Tryd.prog w = .ok (.slice (some ⟨w.heap.size, 0, none⟩) 0 n) (w.alloc (.cells (madeCells #[Value.int .u8 0] n) 5)) := by
  obtain ⟨i0, hi, hz0, hz1, hz2⟩ := info_parts u8_info
  have := run_make (P := Tryd.prog) w 83 5 i0 (.int .u8 0) Tryd.underlying83 hi hz0 .i64 .i64 0 n (by omega) (by omega) (by rw [hz2]; omega) (by omega)
  rw [hz1, Nat.mul_one, show (Value.int .u8 0).cells = #[Value.int .u8 0] from rfl] at this
  simpa using this
theorem made_own (n : Nat) (hn : n ≤ 281474976710656) (w : World) (base : Nat) (hb : base ≤ w.heap.size) :
    (w.alloc (.cells (madeCells #[Value.int .u8 0] n) 5)).ownsRow base 5 1 (.slice (some ⟨w.heap.size, 0, none⟩) 0 n) 0 [] :=
  World.ownsRow_made w _ n hb (by unfold maxLen; omega) (by rw [Nat.mul_one]; exact size_madeCells _ _)

/-- What a call hands back that makes a new row. -/
def Gives (w : World) (x : List (BitVec 8)) (e : Ending) (w' : World) : Prop := ∃ v, e = .returned v ∧ Bs w' v x ∧ Below w.heap.size w w'
theorem cutQ_none (q : Option Addr) (c f : Nat) (hq : q = none → c = 0) : cutQ q c f = none → c - f = 0 := by
  intro h
  unfold cutQ at h
  split at h
  · omega
  · cases q with
    | none => have := hq rfl; omega
    | some a => simp at h
theorem Bs.cut {w : World} {b : List (BitVec 8)} {q : Option Addr} {c : Nat} (hc : b.length ≤ c) (hq : q = none → c = 0) (hs : Sees w w.heap.size q (b.map u8v)) (f : Nat) (hf : f ≤ b.length) :
    Bs w (.slice (cutQ q c f) (b.length - f) (c - f)) (b.drop f) := by
  refine ⟨cutQ q c f, c - f, by rw [List.length_drop], by rw [List.length_drop]; omega, cutQ_none q c f hq, ?_⟩
  rw [List.map_drop]
  exact hs.cut (by simpa using hc)
end Go.Proofs.YtepeloenijlnhaaDoor
/- Contracts: the document's own turned, keys. No condition but that the turn is by 1 to 31. -/
namespace Go.Proofs.YtepeloenijlnhaaDoor
open Go.RowKit
section
attribute [local go_sem] N_and N_or N_xor N_add
theorem turned_any (x : BitVec 32) (k : Nat) (m : Int) (hm : m = (k : Int)) (h0 : 0 < k) (h1 : k < 32) (w : World) :
    Calls Tryd.prog 89 #[.int .u32 (N x), .int .u64 m] w fun e w' => e = .returned (.int .u32 (N (rotr x k))) ∧ w = w' := by
  subst hm
  have hx := N_nonneg x
  obtain ⟨j, hj⟩ : ∃ j, j + k = 32 := ⟨32 - k, by omega⟩
  have e1 : (min j 32) = 32 - k := by omega
  have e2 : (IntKind.u64.wrap (32 - (k : Int))) = (j : Int) := by rw [show (32 - (k : Int)) = (j : Int) from by omega]; exact IntWalk.u64_in _ (by omega)
  have e3 : (min k 32) = k := by omega
  have e4 := rotr_of' x k _ _ rfl rfl
  rw [IntKind.wrap_u32'] at e4
  have e5 : (0 : Int) ≤ (j : Int) := by omega
  have e6 : (0 : Int) ≤ (k : Int) := by omega
  have hb : IntKind.u32.bits = 32 := rfl
  clear hj h0 h1
  go_enter Tryd.func89, Tryd.ntmps89
  go_wp2
  go_ret
  exact ⟨rfl, rfl⟩
end
theorem turned_q (x : BitVec 32) (k : Nat) (m : Int) (hm : m = (k : Int)) (h0 : 0 < k) (h1 : k < 32) (w : World) :
    Calls Tryd.prog 89 #[.int .u32 (N x), .int .u64 m] w fun e w' => e = .returned (.int .u32 (N (rotr x k))) ∧ w' = w :=
  (turned_any x k m hm h0 h1 w).mono fun _ _ ⟨h1, h2⟩ => ⟨h1, h2.symm⟩
theorem wpList_built {P : Program} {ops : Array Oper} {Q : Exit → Act → World → Prop} {rest : List Oper} {o : Oper} {a : Act} {w : World} (hgd : o.guard = none) (t : TypeId) (parts : Array (Nat × Operand)) (ho : o.op = .build t parts) (cs : Array Value)
    (hf : P.built t (parts.map fun (i, x) => (i, a.eval x)).toList = some cs) (h : wpList P ops Q rest (a.put o.dst (.agg cs)) w) : wpList P ops Q (o :: rest) a w := by
  refine wpList_step (fun K hK => ?_)
  rw [if_pos (by simp [Region.wanted, hgd])]
  refine wp_build t parts ho (by rw [hf]; rfl) ?_
  rw [hf]
  exact hK _ _ h
def keyVals : List Value := keyNats.map fun (n : Nat) => Value.int .u32 (n : Int)
theorem keys_small : ∀ n ∈ keyNats, n < 4294967296 := by decide +kernel
theorem keys_lit : keys.map u32v = keyVals := by
  unfold keys keyVals
  rw [List.map_map]
  refine List.map_congr_left (fun n hn => ?_)
  have := keys_small n hn
  show Value.int .u32 (N (BitVec.ofNat 32 n)) = _
  rw [← N_ofNat n this]
theorem keyVals_one : keyVals.toArray.all (·.oneCell') = true := by rw [← keys_lit]; exact u32v_one _
set_option maxRecDepth 100000 in
theorem keys_any (w : World) : Calls Tryd.prog 88 #[] w fun e w' => e = .returned (.agg (keys.map u32v).toArray) ∧ Below w.heap.size w w' := by
  rw [keys_lit]
  have HO := Lib.hid keyVals_one
  go_enter Tryd.func88, Tryd.ntmps88
  go_wp2_with (first
    | (refine wpList_built rfl 131 _ rfl keyVals.toArray (by kernel_rfl) ?_)
    | (refine wpList_store_row rfl 131 _ _ rfl w.heap.size keyVals.toArray rfl rfl 131 _ (heap_alloc_new _ _) (by kernel_rfl) (by kernel_rfl) HO.out ?_))
  refine bodyPost_ret (v := .agg keyVals.toArray) ?_ rfl ⟨rfl, below_row ((Below.refl _ _).alloc (Nat.le_refl _) _) (Nat.le_refl _) _⟩
  exact results_cell_row rfl _ _ w.heap.size 131 _ (0, 0) _ rfl ((Has.made w 131 _).rowl keyVals) Tryd.underlying131 rfl (by kernel_rfl)
end Go.Proofs.YtepeloenijlnhaaDoor
/- Plain laws: SHA-256 over the whole text, padded at once. No condition. -/
namespace Go.Proofs.YtepeloenijlnhaaDoor
/-- How many noughts. -/
def zeros (k : Nat) : Nat := padSize (k % 64) - 9 - k % 64
def padZ (m : List (BitVec 8)) (j : Nat) : List (BitVec 8) := m ++ (0x80 :: List.replicate j 0)
def whole (m : List (BitVec 8)) (i : Nat) : List (BitVec 8) := padZ m (zeros m.length) ++ (lenBytes (8 * m.length)).take i
theorem padZ_length (m : List (BitVec 8)) (j : Nat) : (padZ m j).length = m.length + 1 + j := by unfold padZ; simp; omega
theorem padZ_succ (m : List (BitVec 8)) (j : Nat) : padZ m (j + 1) = padZ m j ++ [0] := by
  unfold padZ
  rw [List.replicate_succ', List.append_assoc, List.cons_append]
theorem zeros_not (k j : Nat) (h : j < zeros k) : (k + 1 + j) % 64 ≠ 56 := by unfold zeros padSize at h; split at h <;> omega
theorem zeros_at (k : Nat) : (k + 1 + zeros k) % 64 = 56 := by unfold zeros padSize; split <;> omega
theorem zeros_le (k : Nat) : zeros k ≤ 119 := by unfold zeros padSize; split <;> omega
theorem whole_length (m : List (BitVec 8)) : (whole m 8).length = m.length + 9 + zeros m.length := by
  unfold whole
  rw [List.length_append, padZ_length, List.length_take]
  have : (lenBytes (8 * m.length)).length = 8 := rfl
  omega
theorem whole_zero (m : List (BitVec 8)) : whole m 0 = padZ m (zeros m.length) := by unfold whole; rw [List.take_zero, List.append_nil]
theorem whole_blocks (m : List (BitVec 8)) : ∃ n, (whole m 8).length = 64 * n ∧ n = m.length / 64 + padSize (m.length % 64) / 64 := by
  refine ⟨m.length / 64 + padSize (m.length % 64) / 64, ?_, rfl⟩
  rw [whole_length]
  unfold zeros padSize
  split <;> omega
theorem whole_sha (m : List (BitVec 8)) (n : Nat) (hn : n = m.length / 64 + padSize (m.length % 64) / 64) : feed n (whole m 8) start = shaState m := by
  subst hn
  have e : whole m 8 = m ++ (0x80 :: (List.replicate (zeros m.length) 0 ++ lenBytes (8 * m.length))) := by
    unfold whole padZ
    rw [List.take_of_length_le (show (lenBytes (8 * m.length)).length ≤ 8 from Nat.le_refl _), List.append_assoc, List.cons_append]
  rw [feed_add, e, feed_append _ _ _ _ (by omega), List.drop_append_of_le_length (by omega)]
  rfl
def lenByte (n i : Nat) : BitVec 8 := BitVec.ofNat 8 (n / 2 ^ (56 - 8 * i))
theorem lenBytes_take (n i : Nat) (hi : i < 8) : (lenBytes n).take (i + 1) = (lenBytes n).take i ++ [lenByte n i] := by
  have h : i = 0 ∨ i = 1 ∨ i = 2 ∨ i = 3 ∨ i = 4 ∨ i = 5 ∨ i = 6 ∨ i = 7 := by omega
  rcases h with rfl | rfl | rfl | rfl | rfl | rfl | rfl | rfl <;> simp [lenBytes, lenByte]
theorem whole_succ (m : List (BitVec 8)) (i : Nat) (hi : i < 8) : whole m (i + 1) = whole m i ++ [lenByte (8 * m.length) i] := by
  unfold whole; rw [lenBytes_take _ _ hi, List.append_assoc]
theorem tell_at (s : St) (i : Nat) (hi : i < 32) : at8 (tell s) i = b32 (at32 s.list (i / 4) >>> (24 - 8 * (i % 4))) := by
  have h4 : i / 4 = 0 ∨ i / 4 = 1 ∨ i / 4 = 2 ∨ i / 4 = 3 ∨ i / 4 = 4 ∨ i / 4 = 5 ∨ i / 4 = 6 ∨ i / 4 = 7 := by omega
  have h5 : i % 4 = 0 ∨ i % 4 = 1 ∨ i % 4 = 2 ∨ i % 4 = 3 := by omega
  have h6 : i = 4 * (i / 4) + i % 4 := by omega
  generalize i / 4 = a at *
  generalize i % 4 = b at *
  subst h6
  rcases h4 with rfl | rfl | rfl | rfl | rfl | rfl | rfl | rfl <;> rcases h5 with rfl | rfl | rfl | rfl <;> simp [tell, tellTo, fourOf, at8, at32, St.list]
end Go.Proofs.YtepeloenijlnhaaDoor
