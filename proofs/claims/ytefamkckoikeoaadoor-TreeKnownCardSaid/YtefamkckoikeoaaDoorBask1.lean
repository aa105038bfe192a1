/- The check of TreeKnown's last order, in pieces. No condition. -/
import Derived.Test.YtefamkckoikeoaaDoorBase4
import Derived.Test.YtefamkckoikeoaaDoorProg
import Derived.Test.YtefamkckoikeoaaDoorBase3
import Derived.Laws.OwnMore
namespace Go.Proofs.YtefamkckoikeoaaDoor
noncomputable def chkK37 : Array Oper := regOf Tryd.f3.body 37
def otPre (md : Region.Mode) (ops : Array Oper) : List Stp → Array Bool → Bool
  | [], _ => true
  | .inl (i, true) :: r, listed => Region.free md ops listed i && ((Region.ready md ops listed).contains i && otPre md ops r (listed.setIfInBounds i true))
  | .inl (i, false) :: r, listed => decide (Region.ready md ops listed = [i]) && otPre md ops r (listed.setIfInBounds i true)
  | .inr (i, j) :: r, listed => (decide (Region.ready md ops listed = [i, j]) && decide (i ≠ j)) && ((decide (Region.ready md ops (listed.setIfInBounds i true) = [j]) && decide (Region.ready md ops (listed.setIfInBounds j true) = [i])) && otPre md ops r ((listed.setIfInBounds i true).setIfInBounds j true))
def otAft : List Stp → Array Bool → Array Bool
  | [], l => l
  | .inl (i, _) :: r, l => otAft r (l.setIfInBounds i true)
  | .inr (i, j) :: r, l => otAft r ((l.setIfInBounds i true).setIfInBounds j true)
theorem otB_app {md : Region.Mode} {ops : Array Oper} : ∀ {A B : List Stp} {l : Array Bool}, otPre md ops A l = true → otB md ops B (otAft A l) = true → otB md ops (A ++ B) l = true
  | [], _, _, _, h => h
  | .inl (i, true) :: r, B, l, h1, h2 => by
    simp only [otPre, Bool.and_eq_true] at h1
    show (Region.free md ops l i && ((Region.ready md ops l).contains i && otB md ops (r ++ B) (l.setIfInBounds i true))) = true
    rw [h1.1, h1.2.1, otB_app h1.2.2 h2]; rfl
  | .inl (i, false) :: r, B, l, h1, h2 => by
    simp only [otPre, Bool.and_eq_true] at h1
    show (decide (Region.ready md ops l = [i]) && otB md ops (r ++ B) (l.setIfInBounds i true)) = true
    rw [h1.1, otB_app h1.2 h2]; rfl
  | .inr (i, j) :: r, B, l, h1, h2 => by
    simp only [otPre, Bool.and_eq_true] at h1
    show ((decide (Region.ready md ops l = [i, j]) && decide (i ≠ j)) && ((decide (Region.ready md ops (l.setIfInBounds i true) = [j]) && decide (Region.ready md ops (l.setIfInBounds j true) = [i])) && otB md ops (r ++ B) ((l.setIfInBounds i true).setIfInBounds j true))) = true
    rw [h1.1.1, h1.1.2, h1.2.1.1, h1.2.1.2, otB_app h1.2.2 h2]; rfl
def ordK0 : List Stp := [.inl (0, true), .inl (1, true), .inl (2, true), .inl (3, true), .inl (4, true), .inl (5, true), .inl (6, true), .inl (7, true), .inl (8, true), .inl (9, true), .inl (10, true), .inl (11, true), .inl (12, true), .inl (13, true), .inl (14, true), .inl (15, true), .inl (16, true), .inl (17, true)]
def ordK1 : List Stp := [.inl (18, true), .inl (19, true), .inl (20, true), .inl (21, true), .inl (22, true), .inl (23, true), .inl (24, true), .inl (25, true), .inl (26, true), .inl (27, true), .inl (28, true), .inl (29, true), .inl (30, true), .inl (31, true), .inl (32, true), .inl (33, true), .inl (34, true), .inl (35, true)]
def ordK2 : List Stp := [.inl (36, true), .inl (37, true), .inl (38, true), .inl (39, true), .inl (40, true), .inl (41, true), .inl (42, true), .inl (43, true), .inl (44, true), .inl (45, true), .inl (46, true), .inl (47, true), .inl (48, true), .inl (49, true), .inl (50, true), .inl (51, true), .inl (52, true), .inl (53, true)]
def ordK3 : List Stp := [.inl (54, true), .inl (55, true), .inl (56, true), .inl (57, true), .inl (58, true), .inl (59, true), .inl (60, true), .inl (61, true), .inl (62, true), .inl (63, true), .inl (64, true), .inl (65, true), .inl (66, true), .inl (67, true), .inl (68, true), .inl (69, true), .inl (70, true), .inl (71, true)]
def ordK4 : List Stp := [.inl (72, true), .inl (73, true), .inl (74, true), .inl (75, true), .inl (76, true), .inl (77, true), .inl (78, true), .inl (79, true), .inl (80, true), .inl (81, true), .inl (82, true), .inl (83, true), .inl (84, true), .inl (85, true), .inl (86, true), .inl (87, true), .inl (88, true), .inl (89, true)]
def ordK5 : List Stp := [.inl (90, true), .inl (91, true), .inl (92, false), .inl (93, true), .inl (94, true), .inl (95, true), .inl (96, true), .inl (97, true), .inl (98, true), .inl (99, true), .inl (100, true), .inl (101, true), .inl (102, true), .inl (103, true), .inl (104, true), .inl (105, true), .inl (106, true), .inl (107, true)]
def ordK6 : List Stp := [.inl (108, true), .inl (109, true), .inl (110, true), .inl (111, true), .inl (112, true), .inl (113, true), .inl (114, true), .inl (115, true), .inl (117, true), .inl (116, false), .inl (118, false), .inl (119, true), .inl (120, true), .inl (121, true), .inr (122, 123), .inl (124, false), .inl (125, true), .inl (126, true)]
def ordK7 : List Stp := [.inl (127, true), .inr (128, 129), .inl (130, false), .inl (131, true), .inl (132, true), .inl (133, true), .inl (134, false), .inl (135, true), .inl (136, true), .inl (137, true), .inl (138, true), .inl (139, false), .inl (140, true), .inl (141, true), .inl (142, true), .inl (143, true)]
def litK0 : Array Bool := #[false, false, false, false, false, false, false, false, false, false, false, false, false, false, false, false, false, false, false, false, false, false, false, false, false, false, false, false, false, false, false, false, false, false, false, false, false, false, false, false, false, false, false, false, false, false, false, false, false, false, false, false, false, false, false, false, false, false, false, false, false, false, false, false, false, false, false, false, false, false, false, false, false, false, false, false, false, false, false, false, false, false, false, false, false, false, false, false, false, false, false, false, false, false, false, false, false, false, false, false, false, false, false, false, false, false, false, false, false, false, false, false, false, false, false, false, false, false, false, false, false, false, false, false, false, false, false, false, false, false, false, false, false, false, false, false, false, false, false, false, false, false, false, false]
def litK1 : Array Bool := #[true, true, true, true, true, true, true, true, true, true, true, true, true, true, true, true, true, true, false, false, false, false, false, false, false, false, false, false, false, false, false, false, false, false, false, false, false, false, false, false, false, false, false, false, false, false, false, false, false, false, false, false, false, false, false, false, false, false, false, false, false, false, false, false, false, false, false, false, false, false, false, false, false, false, false, false, false, false, false, false, false, false, false, false, false, false, false, false, false, false, false, false, false, false, false, false, false, false, false, false, false, false, false, false, false, false, false, false, false, false, false, false, false, false, false, false, false, false, false, false, false, false, false, false, false, false, false, false, false, false, false, false, false, false, false, false, false, false, false, false, false, false, false, false]
set_option maxRecDepth 100000 in
theorem preK0 : otPre .any chkK37 ordK0 litK0 = true := by kernel_rfl
set_option maxRecDepth 100000 in
theorem aftK0 : otAft ordK0 litK0 = litK1 := by kernel_rfl
def litK2 : Array Bool := #[true, true, true, true, true, true, true, true, true, true, true, true, true, true, true, true, true, true, true, true, true, true, true, true, true, true, true, true, true, true, true, true, true, true, true, true, false, false, false, false, false, false, false, false, false, false, false, false, false, false, false, false, false, false, false, false, false, false, false, false, false, false, false, false, false, false, false, false, false, false, false, false, false, false, false, false, false, false, false, false, false, false, false, false, false, false, false, false, false, false, false, false, false, false, false, false, false, false, false, false, false, false, false, false, false, false, false, false, false, false, false, false, false, false, false, false, false, false, false, false, false, false, false, false, false, false, false, false, false, false, false, false, false, false, false, false, false, false, false, false, false, false, false, false]
set_option maxRecDepth 100000 in
theorem preK1 : otPre .any chkK37 ordK1 litK1 = true := by kernel_rfl
set_option maxRecDepth 100000 in
theorem aftK1 : otAft ordK1 litK1 = litK2 := by kernel_rfl
def litK3 : Array Bool := #[true, true, true, true, true, true, true, true, true, true, true, true, true, true, true, true, true, true, true, true, true, true, true, true, true, true, true, true, true, true, true, true, true, true, true, true, true, true, true, true, true, true, true, true, true, true, true, true, true, true, true, true, true, true, false, false, false, false, false, false, false, false, false, false, false, false, false, false, false, false, false, false, false, false, false, false, false, false, false, false, false, false, false, false, false, false, false, false, false, false, false, false, false, false, false, false, false, false, false, false, false, false, false, false, false, false, false, false, false, false, false, false, false, false, false, false, false, false, false, false, false, false, false, false, false, false, false, false, false, false, false, false, false, false, false, false, false, false, false, false, false, false, false, false]
set_option maxRecDepth 100000 in
theorem preK2 : otPre .any chkK37 ordK2 litK2 = true := by kernel_rfl
set_option maxRecDepth 100000 in
theorem aftK2 : otAft ordK2 litK2 = litK3 := by kernel_rfl
def litK4 : Array Bool := #[true, true, true, true, true, true, true, true, true, true, true, true, true, true, true, true, true, true, true, true, true, true, true, true, true, true, true, true, true, true, true, true, true, true, true, true, true, true, true, true, true, true, true, true, true, true, true, true, true, true, true, true, true, true, true, true, true, true, true, true, true, true, true, true, true, true, true, true, true, true, true, true, false, false, false, false, false, false, false, false, false, false, false, false, false, false, false, false, false, false, false, false, false, false, false, false, false, false, false, false, false, false, false, false, false, false, false, false, false, false, false, false, false, false, false, false, false, false, false, false, false, false, false, false, false, false, false, false, false, false, false, false, false, false, false, false, false, false, false, false, false, false, false, false]
set_option maxRecDepth 100000 in
theorem preK3 : otPre .any chkK37 ordK3 litK3 = true := by kernel_rfl
set_option maxRecDepth 100000 in
theorem aftK3 : otAft ordK3 litK3 = litK4 := by kernel_rfl
def litK5 : Array Bool := #[true, true, true, true, true, true, true, true, true, true, true, true, true, true, true, true, true, true, true, true, true, true, true, true, true, true, true, true, true, true, true, true, true, true, true, true, true, true, true, true, true, true, true, true, true, true, true, true, true, true, true, true, true, true, true, true, true, true, true, true, true, true, true, true, true, true, true, true, true, true, true, true, true, true, true, true, true, true, true, true, true, true, true, true, true, true, true, true, true, true, false, false, false, false, false, false, false, false, false, false, false, false, false, false, false, false, false, false, false, false, false, false, false, false, false, false, false, false, false, false, false, false, false, false, false, false, false, false, false, false, false, false, false, false, false, false, false, false, false, false, false, false, false, false]
set_option maxRecDepth 100000 in
theorem preK4 : otPre .any chkK37 ordK4 litK4 = true := by kernel_rfl
set_option maxRecDepth 100000 in
theorem aftK4 : otAft ordK4 litK4 = litK5 := by kernel_rfl
def litK6 : Array Bool := #[true, true, true, true, true, true, true, true, true, true, true, true, true, true, true, true, true, true, true, true, true, true, true, true, true, true, true, true, true, true, true, true, true, true, true, true, true, true, true, true, true, true, true, true, true, true, true, true, true, true, true, true, true, true, true, true, true, true, true, true, true, true, true, true, true, true, true, true, true, true, true, true, true, true, true, true, true, true, true, true, true, true, true, true, true, true, true, true, true, true, true, true, true, true, true, true, true, true, true, true, true, true, true, true, true, true, true, true, false, false, false, false, false, false, false, false, false, false, false, false, false, false, false, false, false, false, false, false, false, false, false, false, false, false, false, false, false, false, false, false, false, false, false, false]
set_option maxRecDepth 100000 in
theorem preK5 : otPre .any chkK37 ordK5 litK5 = true := by kernel_rfl
set_option maxRecDepth 100000 in
theorem aftK5 : otAft ordK5 litK5 = litK6 := by kernel_rfl
def litK7 : Array Bool := #[true, true, true, true, true, true, true, true, true, true, true, true, true, true, true, true, true, true, true, true, true, true, true, true, true, true, true, true, true, true, true, true, true, true, true, true, true, true, true, true, true, true, true, true, true, true, true, true, true, true, true, true, true, true, true, true, true, true, true, true, true, true, true, true, true, true, true, true, true, true, true, true, true, true, true, true, true, true, true, true, true, true, true, true, true, true, true, true, true, true, true, true, true, true, true, true, true, true, true, true, true, true, true, true, true, true, true, true, true, true, true, true, true, true, true, true, true, true, true, true, true, true, true, true, true, true, true, false, false, false, false, false, false, false, false, false, false, false, false, false, false, false, false, false]
set_option maxRecDepth 100000 in
theorem preK6 : otPre .any chkK37 ordK6 litK6 = true := by kernel_rfl
set_option maxRecDepth 100000 in
theorem aftK6 : otAft ordK6 litK6 = litK7 := by kernel_rfl
set_option maxRecDepth 100000 in
theorem endK7 : otB .any chkK37 ordK7 litK7 = true := by kernel_rfl
def ordK37 : List Stp := ordK0 ++ (ordK1 ++ (ordK2 ++ (ordK3 ++ (ordK4 ++ (ordK5 ++ (ordK6 ++ (ordK7)))))))
theorem ordK37_B : otB .any chkK37 ordK37 litK0 = true := by
  refine otB_app preK0 ?_
  rw [aftK0]
  refine otB_app preK1 ?_
  rw [aftK1]
  refine otB_app preK2 ?_
  rw [aftK2]
  refine otB_app preK3 ?_
  rw [aftK3]
  refine otB_app preK4 ?_
  rw [aftK4]
  refine otB_app preK5 ?_
  rw [aftK5]
  refine otB_app preK6 ?_
  rw [aftK6]
  exact endK7
set_option maxRecDepth 100000 in
theorem sizeK37 : chkK37.size = 144 := by kernel_rfl
set_option maxRecDepth 100000 in
theorem chkK37_ok : otcB ordK37 chkK37 = true := by
  have h0 : Array.replicate chkK37.size false = litK0 := by rw [sizeK37]; rfl
  have h1 : decide (fewer ordK37 ≤ chkK37.size) = true := by rw [sizeK37]; rfl
  have h2 : ordK37.all (inB chkK37.size) = true := by rw [sizeK37]; rfl
  unfold otcB
  rw [h0, h1, h2, ordK37_B]; rfl
end Go.Proofs.YtefamkckoikeoaaDoor
/- Closed facts of the law TreeKnown. No condition. -/
namespace Go.Proofs.YtefamkckoikeoaaDoor
open Go.RowKit
def kC : ByteArray := ⟨#[99]⟩
def kBigA : ByteArray := ⟨#[65]⟩
def kZ : ByteArray := ⟨#[122]⟩
def kZY : ByteArray := ⟨#[122, 47, 121]⟩
def kCY : ByteArray := ⟨#[99, 47, 121]⟩
def kCD : ByteArray := ⟨#[99, 47, 100]⟩
def kQ : ByteArray := ⟨#[113]⟩
def kW : ByteArray := ⟨#[46, 119, 111, 114, 107]⟩
def kW1 : ByteArray := ⟨#[46, 119, 111, 114, 107, 47, 116, 49]⟩
def kAb : ByteArray := ⟨#[97, 46, 98]⟩
def kAc : ByteArray := ⟨#[97, 46, 99]⟩
def kAd : ByteArray := ⟨#[97, 46, 100]⟩
def kBad : List Ent := [(⟨#[98]⟩, false, .slice none 0 0, []), (⟨#[97]⟩, false, .slice none 0 0, [])]
def kT (vx vc : Value) : List Ent := [dirE pA, fileE pAB vx [120], fileE kC vc []]
def kU (vc : Value) : List Ent := [dirE pA, fileE kC vc []]
def kO (vo : Value) : List Ent := [dirE pA, fileE kC vo [120]]
def kW4 (vx vc : Value) : List Ent := [dirE kW, dirE pA, fileE pAB vx [120], fileE kC vc []]
def kW5 (vx vc vw : Value) : List Ent := [dirE kW, fileE kW1 vw [122], dirE pA, fileE pAB vx [120], fileE kC vc []]
def kNames : ByteArray := ⟨#[97, 98, 99, 100, 101, 102, 103, 104, 105, 106, 107, 108, 109, 110, 111, 112, 113, 114, 115, 116, 117, 118, 119, 120, 121, 122, 48, 49, 50, 51, 52, 53, 54, 55, 56, 57, 45, 95]⟩
theorem k3 (vx vc : Value) : puttP [dirE pA, fileE pAB vx [120]] kC [] vc = (kT vx vc, 0) := by kernel_rfl
theorem kgood (vx vc : Value) : goodP (kT vx vc) = true := by kernel_rfl
theorem kf1 (vx vc : Value) : findP (kT vx vc) kBigA = (0, 4) := by kernel_rfl
theorem kf2 (vx vc : Value) : findP (kT vx vc) kZ = (0, 5) := by kernel_rfl
theorem kf3 (vx vc : Value) : findP (kT vx vc) pAB = (1, 0) := by kernel_rfl
theorem kp1 (vx vc v : Value) : puttP (kT vx vc) kZY [] v = (kT vx vc, 5) := by kernel_rfl
theorem kp2 (vx vc v : Value) : puttP (kT vx vc) kCY [] v = (kT vx vc, 7) := by kernel_rfl
theorem kp3 (vx vc v : Value) : puttP (kT vx vc) pA [] v = (kT vx vc, 7) := by kernel_rfl
theorem kp4 (vx vc v : Value) (b : List (BitVec 8)) (hb : b.length = 2049) : puttP (kT vx vc) kQ b v = (kT vx vc, 9) := by
  have h1 : askT (kT vx vc) [kQ] = 0 := by kernel_rfl
  have h2 : roomT (kT vx vc) kQ.data.toList = 0 := by kernel_rfl
  have h3 : hasT (kT vx vc) kQ.data.toList = false := by kernel_rfl
  unfold puttP putP
  rw [h1, h2, h3, if_neg (by simp), if_neg (by simp), if_neg (by simp), if_pos (by omega)]
theorem km1 (vx vc : Value) : makeP (kT vx vc) pA = (kT vx vc, 6) := by kernel_rfl
theorem km2 (vx vc : Value) : makeP (kT vx vc) kCD = (kT vx vc, 7) := by kernel_rfl
theorem kr1 (vx vc : Value) : removeP (kT vx vc) pA = (kT vx vc, 8) := by kernel_rfl
theorem kr2 (vx vc : Value) : removeP (kT vx vc) kQ = (kT vx vc, 5) := by kernel_rfl
theorem kr3 (vx vc : Value) : removeP (kT vx vc) pAB = (kU vc, 0) := by kernel_rfl
theorem kv1 (vx vc v : Value) : moveP (kT vx vc) pA kQ v = (kT vx vc, 7) := by kernel_rfl
theorem kv2 (vx vc v : Value) : moveP (kT vx vc) pAB kZY v = (kT vx vc, 5) := by kernel_rfl
theorem kv3 (vx vc v : Value) : moveP (kT vx vc) pAB kC v = (kO v, 0) := by kernel_rfl
theorem kv4 (vx vc v : Value) : moveP (kT vx vc) kC kC v = (kT vx vc, 0) := by kernel_rfl
theorem kb1 (v : Value) : puttP kBad kQ [] v = (kBad, 1) := by kernel_rfl
theorem kw1 (vx vc : Value) : makeP (kT vx vc) kW = (kW4 vx vc, 0) := by kernel_rfl
theorem kw2 (vx vc v : Value) : puttP (kW4 vx vc) kW1 [122] v = (kW5 vx vc v, 0) := by kernel_rfl
theorem kw3 (vx vc v : Value) : cleanP (kW5 vx vc v) = kT vx vc := by kernel_rfl
theorem kk1 (vx vc : Value) : kidsP (kT vx vc) [] = [[97], [99]] := by kernel_rfl
theorem kk2 (vx vc : Value) : kidsP (kT vx vc) [97] = [[97, 47, 98]] := by kernel_rfl
theorem kk3 (vx vc : Value) : kidsP (kT vx vc) [122, 122] = [] := by kernel_rfl
theorem kby (vx vc : Value) : bytesP (kT vx vc) = 1 := by kernel_rfl
theorem ksame (vx vc : Value) : sameT (kT vx vc) (kT vx vc) = true := by unfold sameT; rw [kgood, likeT_self]; rfl
def kFull : Nat → List Ent
  | 0 => []
  | i + 1 => (makeP (kFull i) (kNames.extract i (i + 1))).1
theorem kfull_ok : (List.range 38).all (fun i => decide ((makeP (kFull i) (kNames.extract i (i + 1))).2 = 0)) = true := by kernel_rfl
theorem kfull_good : (List.range 39).all (fun i => goodP (kFull i)) = true := by kernel_rfl
theorem kfull1 : makeP (kFull 38) kAb = ((makeP (kFull 38) kAb).1, 0) := by kernel_rfl
theorem kfull2 : makeP (makeP (kFull 38) kAb).1 kAc = ((makeP (makeP (kFull 38) kAb).1 kAc).1, 0) := by kernel_rfl
theorem kfull3 : (makeP (makeP (makeP (kFull 38) kAb).1 kAc).1 kAd).2 = 9 := by kernel_rfl
theorem kfull4 : ((makeP (makeP (kFull 38) kAb).1 kAc).1).length = 40 := by kernel_rfl
end Go.Proofs.YtefamkckoikeoaaDoor
/- Package tree's calls at trees that may be, and small texts: each is one application of its contract. Conditions: a path of at most 100 bytes. -/
namespace Go.Proofs.YtefamkckoikeoaaDoor
open Go.RowKit
section
variable (C : List Ent) (hg : goodP C = true) (q : Option Addr) (c : Nat) (hcap : C.length ≤ c) (w : World) (hs : Sees w w.heap.size q (rowC C)) (hE : Ents w C)
include hg hcap hs hE
theorem g_put (hq : q = none → c = 0) (p : ByteArray) (hp : p.size ≤ 100) (b : List (BitVec 8)) (qb : Option Addr) (cb : Nat) (hqb : qb = none → cb = 0) (hbl : b.length ≤ 100000) (hsb : Sees w w.heap.size qb (b.map u8v)) :
    Calls Tryd.prog 11 #[.agg #[.slice q C.length c], .string p, .slice qb b.length cb] w fun e w' => (∃ v v5, e = .returned (.tuple #[.agg #[v], .int .i64 (puttP C p b v5).2]) ∧ TrV w' v (puttP C p b v5).1 ∧ Ents w' (puttP C p b v5).1) ∧ Below w.heap.size w w' := by
  obtain ⟨h1, h2, h3⟩ := good_small8 hg
  refine (tput_any C q c p b qb cb (by omega) hcap hq (by omega) (fun e he => by have := h3 e he; omega) (by omega) hqb (by omega) w hs hE hsb).mono ?_
  rintro e w' ⟨⟨v, v5, rfl, hR⟩, hb⟩
  exact ⟨⟨v, v5, rfl, hR.tr ⟨q, c, rfl, hcap, hq, (hs.keep hb).more hb.size⟩ (hE.keep hb)⟩, hb⟩
theorem g_make (hq : q = none → c = 0) (p : ByteArray) (hp : p.size ≤ 100) :
    Calls Tryd.prog 10 #[.agg #[.slice q C.length c], .string p] w fun e w' => (∃ v, e = .returned (.tuple #[.agg #[v], .int .i64 (makeP C p).2]) ∧ TrV w' v (makeP C p).1 ∧ Ents w' (makeP C p).1) ∧ Below w.heap.size w w' := by
  obtain ⟨h1, h2, h3⟩ := good_small8 hg
  refine (tmake_any C q c p (by omega) hcap hq (by omega) (fun e he => by have := h3 e he; omega) (by omega) w hs hE).mono ?_
  rintro e w' ⟨⟨v, rfl, hR⟩, hb⟩
  exact ⟨⟨v, rfl, hR.tr ⟨q, c, rfl, hcap, hq, (hs.keep hb).more hb.size⟩ (hE.keep hb)⟩, hb⟩
theorem g_remove (hq : q = none → c = 0) (p : ByteArray) (hp : p.size ≤ 100) :
    Calls Tryd.prog 13 #[.agg #[.slice q C.length c], .string p] w fun e w' => (∃ v, e = .returned (.tuple #[.agg #[v], .int .i64 (removeP C p).2]) ∧ TrV w' v (removeP C p).1 ∧ Ents w' (removeP C p).1) ∧ Below w.heap.size w w' := by
  obtain ⟨h1, h2, h3⟩ := good_small8 hg
  refine (tremove_any C q c p (by omega) hcap hq (by omega) (fun e he => by have := h3 e he; omega) (by omega) w hs hE).mono ?_
  rintro e w' ⟨⟨v, rfl, hR⟩, hb⟩
  exact ⟨⟨v, rfl, hR.tr ⟨q, c, rfl, hcap, hq, (hs.keep hb).more hb.size⟩ (hE.keep hb)⟩, hb⟩
theorem g_move (hq : q = none → c = 0) (f t : ByteArray) (hf : f.size ≤ 100) (ht : t.size ≤ 100) :
    Calls Tryd.prog 14 #[.agg #[.slice q C.length c], .string f, .string t] w fun e w' => (∃ v v5, e = .returned (.tuple #[.agg #[v], .int .i64 (moveP C f t v5).2]) ∧ TrV w' v (moveP C f t v5).1 ∧ Ents w' (moveP C f t v5).1) ∧ Below w.heap.size w w' := by
  obtain ⟨h1, h2, h3⟩ := good_small8 hg
  exact tmove_any C q c f t (by omega) hcap hq (by omega) (fun e he => by have := h3 e he; omega) (by omega) (by omega) w hs hE
theorem g_find (p : ByteArray) (hp : p.size ≤ 100) :
    Calls Tryd.prog 12 #[.agg #[.slice q C.length c], .string p] w fun e w' => (∃ r : Ent, e = .returned (.tuple #[entV r, .int .i64 (findP C p).2]) ∧ FindR w' w.heap.size C p r) ∧ Below w.heap.size w w' := by
  obtain ⟨h1, h2, h3⟩ := good_small8 hg
  exact tFind_any C q c p (by omega) hcap (by omega) (fun e he => by have := h3 e he; omega) (by omega) (fun e he _ => by have := good_by hg e he; omega) w hs hE
theorem g_same (D : List Ent) (hgD : goodP D = true) (q2 : Option Addr) (c2 : Nat) (hcap2 : D.length ≤ c2) (hs2 : Sees w w.heap.size q2 (rowC D)) (hE2 : Ents w D) :
    Calls Tryd.prog 15 #[.agg #[.slice q C.length c], .agg #[.slice q2 D.length c2]] w fun e w' => e = .returned (.bool (sameT C D)) ∧ Below w.heap.size w w' := by
  obtain ⟨h1, h2, h3⟩ := good_small8 hg
  obtain ⟨k1, k2, k3⟩ := good_small8 hgD
  exact tsame_any C D q q2 c c2 (by omega) (by omega) hcap hcap2 (by omega) (by omega) (fun e he => by have := h3 e he; omega) (fun e he => by have := k3 e he; omega) w hs hs2 hE hE2
theorem g_clean (hq : q = none → c = 0) : Calls Tryd.prog 16 #[.agg #[.slice q C.length c]] w fun e w' => (∃ v, e = .returned (.agg #[v]) ∧ TrV w' v (cleanP C)) ∧ Below w.heap.size w w' := by
  obtain ⟨h1, h2, h3⟩ := good_small8 hg
  exact tclean_any C q c (by omega) hcap hq (by omega) (fun e he => by have := h3 e he; omega) w hs hE
theorem g_kids (p : ByteArray) : Calls Tryd.prog 18 #[.agg #[.slice q C.length c], .string p] w fun e w' => (∃ v, e = .returned v ∧ Ts w' v (kidsP C p.data.toList)) ∧ Below w.heap.size w w' := by
  obtain ⟨h1, h2, h3⟩ := good_small8 hg
  exact tkids_any C q c p (by omega) hcap (by omega) (fun e he => by have := h3 e he; omega) w hs hE
theorem g_bytes : Calls Tryd.prog 19 #[.agg #[.slice q C.length c]] w fun e w' => e = .returned (.int .i64 (bytesP C : Int)) ∧ Below w.heap.size w w' := by
  obtain ⟨h1, h2, h3⟩ := good_small8 hg
  exact tbytes_any C q c (by omega) hcap (by omega) (fun e he => by have := h3 e he; omega) w hs hE
end
theorem mk2049 (w : World) : (Instr.makeSlice 30 (.int .i64 2049) (.int .i64 2049)).run Tryd.prog w = .ok (.slice (some ⟨w.heap.size, 0, none⟩) 2049 2049) (w.alloc (.cells (madeCells #[Value.int .u8 0] 2049) 5)) := by
  obtain ⟨i0, hi, hz0, hz1, hz2⟩ := info_parts u8_info
  have := run_make (P := Tryd.prog) w 30 5 i0 (.int .u8 0) Tryd.underlying30 hi hz0 .i64 .i64 2049 2049 (by omega) (by omega) (by rw [hz2]; omega) (by omega)
  rw [hz1, Nat.mul_one, show (Value.int .u8 0).cells = #[Value.int .u8 0] from rfl] at this
  simpa using this
theorem sees2049 (w : World) : Sees (w.alloc (.cells (madeCells #[Value.int .u8 0] 2049) 5)) (w.alloc (.cells (madeCells #[Value.int .u8 0] 2049) 5)).heap.size (some ⟨w.heap.size, 0, none⟩) ((List.replicate 2049 (0 : BitVec 8)).map u8v) := by
  have h := Has.made w 5 (madeCells #[Value.int .u8 0] 2049)
  rw [toList_madeCells_one] at h
  have e : (List.replicate 2049 (0 : BitVec 8)).map u8v = List.replicate 2049 (Value.int .u8 0) := by rw [List.map_replicate]; rfl
  rw [e]
  exact has_sees h
end Go.Proofs.YtefamkckoikeoaaDoor
