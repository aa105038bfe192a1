/- Plain laws of cells into which many have been put. No condition. -/
import Derived.Test.YtihkbblapfjobaaDoorCa
namespace Go.Proofs.YtihkbblapfjobaaDoor
open Go.RowKit
def putL (c : Ce) (L : List Su) : Ce := L.foldl putC c
def takeL (c : Ce) (L : List Su) : Ce := L.foldl takeC c
theorem putL_snoc (c : Ce) (L : List Su) (x : Su) : putL c (L ++ [x]) = putC (putL c L) x := by unfold putL; rw [List.foldl_append]; rfl
theorem takeL_snoc (c : Ce) (L : List Su) (x : Su) : takeL c (L ++ [x]) = takeC (takeL c L) x := by unfold takeL; rw [List.foldl_append]; rfl
theorem minus_put (a b : Ce) (x : Su) : minusC a (putC b x) = takeC (minusC a b) x := by
  unfold minusC takeC putC withC
  simp only [Prod.mk.injEq]
  refine ⟨?_, (xorS_assoc _ _ _).symm, (xorS_assoc _ _ _).symm⟩
  simp only [IntKind.wrap_i64]; omega
theorem put_minus (a b : Ce) (x : Su) : minusC (putC a x) (putC b x) = minusC a b := by
  unfold minusC putC withC
  simp only [Prod.mk.injEq]
  refine ⟨?_, ?_, ?_⟩
  · simp only [IntKind.wrap_i64]; omega
  · rw [xorS_assoc, ← xorS_assoc x, xorS_comm x, xorS_assoc, xorS_self, xorS_zero]
  · rw [xorS_assoc, ← xorS_assoc (chkS x), xorS_comm (chkS x), xorS_assoc, xorS_self, xorS_zero]
theorem minus_putL (a : Ce) : ∀ (L : List Su) (b : Ce), minusC a (putL b L) = takeL (minusC a b) L
  | [], _ => rfl
  | x :: L, b => by
    show minusC a (putL (putC b x) L) = takeL (takeC (minusC a b) x) L
    rw [minus_putL a L, minus_put]
theorem putL_minus : ∀ (L : List Su) (a b : Ce), minusC (putL a L) (putL b L) = minusC a b
  | [], _, _ => rfl
  | x :: L, a, b => by
    show minusC (putL (putC a x) L) (putL (putC b x) L) = _
    rw [putL_minus L, put_minus]
theorem okC_putL : ∀ (L : List Su) (c : Ce), okC c → okC (putL c L)
  | [], _, h => h
  | x :: L, c, _ => okC_putL L (putC c x) (okC_with _ _ _ _)
theorem take_putL {c : Ce} (h : okC c) (L : List Su) : takeL (putL c L) L = c := by
  have h1 := minus_putL (putL c L) L zC
  rw [minusC_zero (okC_putL L c h), putL_minus, minusC_zero h] at h1
  exact h1.symm
theorem putL_count : ∀ (L : List Su) (c : Ce), okC c → (putL c L).1 = IntKind.i64.wrap (c.1 + L.length)
  | [], c, h => by
    show c.1 = _
    unfold okC at h
    simp [h]
  | x :: L, c, _ => by
    show (putL (putC c x) L).1 = _
    rw [putL_count L (putC c x) (okC_with _ _ _ _)]
    show IntKind.i64.wrap (IntKind.i64.wrap (c.1 + 1) + L.length) = _
    rw [wrap_add, List.length_cons]
    congr 1
    omega
theorem putL_perm {L M : List Su} (h : L.Perm M) : ∀ c, putL c L = putL c M := by
  induction h with
  | nil => intro _; rfl
  | cons x _ ih => intro c; exact ih (putC c x)
  | swap x y l => intro c; show putL (putC (putC c y) x) l = putL (putC (putC c x) y) l; rw [putC_right]
  | trans _ _ ih1 ih2 => intro c; rw [ih1, ih2]
/-- The sums in their turned order, the first i. -/
def rotS (L : List Su) (r i : Nat) : List Su := (List.range i).map fun k => L[(k + r) % L.length]!
theorem rotS_succ (L : List Su) (r i : Nat) : rotS L r (i + 1) = rotS L r i ++ [L[(i + r) % L.length]!] := by unfold rotS; rw [List.range_succ, List.map_append]; rfl
theorem rotS_all {L : List Su} {r : Nat} (hr : r < L.length) : rotS L r L.length = L.drop r ++ L.take r := by
  unfold rotS
  refine List.ext_getElem (by simp; omega) fun k h1 h2 => ?_
  have hk : k < L.length := by simpa using h1
  rw [List.getElem_map, List.getElem_range, getElem!_pos L _ (Nat.mod_lt _ (by omega)), List.getElem_append]
  split
  · rename_i h3
    rw [List.length_drop] at h3
    rw [List.getElem_drop]
    congr 1
    rw [Nat.mod_eq_of_lt (by omega)]; omega
  · rename_i h3
    rw [List.length_drop] at h3
    rw [List.getElem_take]
    congr 1
    rw [List.length_drop, Nat.mod_eq_sub_mod (by omega), Nat.mod_eq_of_lt (by omega)]; omega
theorem rotS_perm {L : List Su} {r : Nat} (hr : r < L.length) : (rotS L r L.length).Perm L := by
  rw [rotS_all hr]
  exact List.perm_append_comm.trans (by rw [List.take_append_drop])
end Go.Proofs.YtihkbblapfjobaaDoor
