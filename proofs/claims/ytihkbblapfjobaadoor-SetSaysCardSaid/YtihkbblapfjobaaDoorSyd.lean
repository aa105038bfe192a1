/- For SetSays: orders and plain facts. No condition. -/
import Derived.Test.YtihkbblapfjobaaDoorGs
namespace Go.Proofs.YtihkbblapfjobaaDoor
open Go.RowKit
theorem sy_srt {A : List Su} (h : A.length ≤ 120) (x : Su) : (goodU (srt A) && decide (x ∈ srt A)) = decide (x ∈ A) := by
  rw [goodU_of (asc_srt A) (Nat.le_trans (len_srt_le A) (by omega))]
  simp [mem_srt]
theorem sy_add (A : List Su) (x : Su) : decide (eitU A [x] = srt (A ++ [x])) = true := decide_eq_true rfl
theorem sy_ne {A B : List Su} (ha : goodU A = true) (hb : goodU B = false) : (goodU A && decide (A = B)) = false := by
  rw [ha]
  by_cases h : A = B
  · subst h; rw [ha] at hb; cases hb
  · simp [h]
def waitSy1 (i : Nat) : List Nat := ([[], [0]] : List (List Nat)).getD i []
def slotsSy1 : List (Nat × Nat) := [(15, 0), (16, 1)]
theorem sbSy1 : slotsB slotsSy1 = true := by kernel_rfl
theorem chkSy1 : flwO slotsSy1 waitSy1 2 (regOf Tryd.f8.body 1) = true := by kernel_rfl
def waitSy5 (i : Nat) : List Nat := ([[], [0], [], [2], [], [], [1], [3], [0, 1, 2, 3, 4, 5, 6, 7]] : List (List Nat)).getD i []
def slotsSy5 : List (Nat × Nat) := [(25, 0), (26, 1), (27, 2), (28, 3), (29, 4), (9, 5), (7, 6), (8, 7)]
theorem sbSy5 : slotsB slotsSy5 = true := by kernel_rfl
theorem chkSy5 : stgB slotsSy5 waitSy5 0 8 (regOf Tryd.f8.body 5) = true := by kernel_rfl
def waitSy6 (i : Nat) : List Nat := ([[], [0], [], [2], [], [], [1], [3], [0, 1, 2, 3, 4, 5, 6, 7]] : List (List Nat)).getD i []
def slotsSy6 : List (Nat × Nat) := [(30, 0), (31, 1), (32, 2), (33, 3), (34, 4), (12, 5), (10, 6), (11, 7)]
theorem sbSy6 : slotsB slotsSy6 = true := by kernel_rfl
theorem chkSy6 : stgB slotsSy6 waitSy6 0 8 (regOf Tryd.f8.body 6) = true := by kernel_rfl
def waitSy7 (i : Nat) : List Nat := ([[], [0], [1]] : List (List Nat)).getD i []
def slotsSy7 : List (Nat × Nat) := [(35, 0), (36, 1), (13, 2)]
theorem sbSy7 : slotsB slotsSy7 = true := by kernel_rfl
theorem chkSy7 : flwO slotsSy7 waitSy7 3 (regOf Tryd.f8.body 7) = true := by kernel_rfl
end Go.Proofs.YtihkbblapfjobaaDoor
