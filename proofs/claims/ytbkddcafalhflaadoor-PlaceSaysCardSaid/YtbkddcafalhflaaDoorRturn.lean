/- Contracts: the document's own turned, keys. No condition but that the turn is by 1 to 31. -/
import Derived.Test.YtbkddcafalhflaaDoorProg
import Derived.Test.YtbkddcafalhflaaDoorSha
import Derived.Test.YtbkddcafalhflaaDoorMem
import Derived.Test.YtbkddcafalhflaaDoorOrg
import Derived.WalkSpells
import Derived.Lib.Hide
import Derived.Laws.Tables
import Derived.Laws.Rows
import Derived.Deep.DeepCutAuto
namespace Go.Proofs.YtbkddcafalhflaaDoor
open Go.RowKit
section
attribute [local go_sem] N_and N_or N_xor N_add
theorem turned_any (x : BitVec 32) (k : Nat) (m : Int) (hm : m = (k : Int)) (h0 : 0 < k) (h1 : k < 32) (w : World) :
    Calls Tryd.prog 28 #[.int .u32 (N x), .int .u64 m] w fun e w' => e = .returned (.int .u32 (N (rotr x k))) ∧ w = w' := by
  subst hm
  have hx := N_nonneg x
  obtain ⟨j, hj⟩ : ∃ j, j + k = 32 := ⟨32 - k, by omega⟩
  have e1 : (min j 32) = 32 - k := by omega
  have e2 : (IntKind.u64.wrap (32 - (k : Int))) = (j : Int) := by rw [show (32 - (k : Int)) = (j : Int) from by omega]; exact IntWalk.u64_in _ (by omega)
  have e3 : (min k 32) = k := by omega
  have e4 := rotr_of' x k _ _ rfl rfl
  rw [IntKind.wrap_u32'] at e4
  have e5 : (0 : Int) ≤ (j : Int) := by omega
  have e6 : (0 : Int) ≤ (k : Int) := by omega
  have hb : IntKind.u32.bits = 32 := rfl
  clear hj h0 h1
  go_enter Tryd.func28, Tryd.ntmps28
  go_wp2
  go_ret
  exact ⟨rfl, rfl⟩
end
theorem turned_q (x : BitVec 32) (k : Nat) (m : Int) (hm : m = (k : Int)) (h0 : 0 < k) (h1 : k < 32) (w : World) :
    Calls Tryd.prog 28 #[.int .u32 (N x), .int .u64 m] w fun e w' => e = .returned (.int .u32 (N (rotr x k))) ∧ w' = w :=
  (turned_any x k m hm h0 h1 w).mono fun _ _ ⟨h1, h2⟩ => ⟨h1, h2.symm⟩
theorem wpList_built {P : Program} {ops : Array Oper} {Q : Exit → Act → World → Prop} {rest : List Oper} {o : Oper} {a : Act} {w : World} (hgd : o.guard = none) (t : TypeId) (parts : Array (Nat × Operand)) (ho : o.op = .build t parts) (cs : Array Value)
    (hf : P.built t (parts.map fun (i, x) => (i, a.eval x)).toList = some cs) (h : wpList P ops Q rest (a.put o.dst (.agg cs)) w) : wpList P ops Q (o :: rest) a w := by
  refine wpList_step (fun K hK => ?_)
  rw [if_pos (by simp [Region.wanted, hgd])]
  refine wp_build t parts ho (by rw [hf]; rfl) ?_
  rw [hf]
  exact hK _ _ h
def keyVals : List Value := keyNats.map fun (n : Nat) => Value.int .u32 (n : Int)
theorem keys_small : ∀ n ∈ keyNats, n < 4294967296 := by decide +kernel
theorem keys_lit : keys.map u32v = keyVals := by
  unfold keys keyVals
  rw [List.map_map]
  refine List.map_congr_left (fun n hn => ?_)
  have := keys_small n hn
  show Value.int .u32 (N (BitVec.ofNat 32 n)) = _
  rw [← N_ofNat n this]
theorem keyVals_one : keyVals.toArray.all (·.oneCell') = true := by rw [← keys_lit]; exact u32v_one _
set_option maxRecDepth 100000 in
theorem keys_any (w : World) : Calls Tryd.prog 27 #[] w fun e w' => e = .returned (.agg (keys.map u32v).toArray) ∧ Below w.heap.size w w' := by
  rw [keys_lit]
  have HO := Lib.hid keyVals_one
  go_enter Tryd.func27, Tryd.ntmps27
  go_wp2_with (first
    | (refine wpList_built rfl 56 _ rfl keyVals.toArray (by kernel_rfl) ?_)
    | (refine wpList_store_row rfl 56 _ _ rfl w.heap.size keyVals.toArray rfl rfl 56 _ (heap_alloc_new _ _) (by kernel_rfl) (by kernel_rfl) HO.out ?_))
  refine bodyPost_ret (v := .agg keyVals.toArray) ?_ rfl ⟨rfl, below_row ((Below.refl _ _).alloc (Nat.le_refl _) _) (Nat.le_refl _) _⟩
  exact results_cell_row rfl _ _ w.heap.size 56 _ (0, 0) _ rfl ((Has.made w 56 _).rowl keyVals) Tryd.underlying56 rfl (by kernel_rfl)
end Go.Proofs.YtbkddcafalhflaaDoor
