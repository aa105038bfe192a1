/- The walk of the law PolySays: it returns true, and writes nothing that was there. Conditions: the table of rests as laid; the slices read as lists of bytes; an int64. -/
import Derived.Test.YtpfckamobjcdhabDoorAwake
import Derived.Test.YtpfckamobjcdhabDoorRseal
import Derived.Test.YtpfckamobjcdhabDoorZeros
import Derived.Test.YtpfckamobjcdhabDoorTab
namespace Go.Proofs.YtpfckamobjcdhabDoor
open Go.RowKit
theorem joinN_crc (c : BitVec 32) (b : List (BitVec 8)) : joinN c (crc 0#32 b) (b.length : Int) = crc c b := by
  unfold joinN; rw [crc_join c b]; rfl
theorem of_two (a b : List (BitVec 8)) (q1 q2 : Option Addr) (c1 c2 g : Nat) (w : World) (hg : Has w g 43 [.slice q1 a.length c1, .slice q2 b.length c2])
    (h1 : a.length ≤ c1) (h2 : b.length ≤ c2) (s1 : Sees w w.heap.size q1 (a.map u8v)) (s2 : Sees w w.heap.size q2 (b.map u8v))
    (hl : a.length + b.length < 1099511627776) (hR : Rests w) :
    Calls Tryd.prog 16 #[.slice (some ⟨g, 0, none⟩) 2 2] w fun e w' => e = .returned (.int .u32 (N (crc 0#32 (a ++ b)))) ∧ w = w' := by
  have hP : Parts w w.heap.size (some ⟨g, 0, none⟩) [a, b] := by
    intro i hi
    have hi' : i = 0 ∨ i = 1 := by simp at hi; omega
    rcases hi' with rfl | rfl
    · exact ⟨_, q1, c1, rfl, hg.lt, (by simpa [Addr.add] using hg.cellv (i := 0) rfl), h1, s1⟩
    · exact ⟨_, q2, c2, rfl, hg.lt, (by simpa [Addr.add] using hg.cellv (i := 1) rfl), h2, s2⟩
  have := of_any [a, b] (some ⟨g, 0, none⟩) 2 w hP (by simp) (by simp; omega) hR
  rw [show ([a, b] : List (List (BitVec 8))).flatten = a ++ b by simp] at this
  exact this
/-- A new row of bytes comes back, in a world that keeps what lay below. -/
def Reads (w0 : World) (x : List (BitVec 8)) (e : Ending) (w' : World) : Prop := ∃ q c, e = .returned (.slice q x.length c) ∧ Sees w' w'.heap.size q (x.map u8v) ∧ Below w0.heap.size w0 w'
theorem Gives.reads {w0 w : World} {x : List (BitVec 8)} {e : Ending} {w' : World} (hb : Below w0.heap.size w0 w) (h : Gives w x e w') : Reads w0 x e w' := by
  obtain ⟨v, rfl, ⟨q, c, rfl, _, _, hs⟩, hb'⟩ := h
  exact ⟨q, c, rfl, hs, hb.trans (hb'.mono hb.size)⟩
/-- What the operations of the three stretches leave. -/
def Phig1 (va vb : Value) (X Y : BitVec 32) : Nat → Value → World → Prop
  | 26, v, w => ∃ g, v = .slice (some ⟨g, 0, none⟩) 1 1 ∧ Has w g 43 [va]
  | 27, v, _ => v = .int .u32 (N X)
  | 29, v, w => ∃ g, v = .slice (some ⟨g, 0, none⟩) 1 1 ∧ Has w g 43 [vb]
  | 30, v, _ => v = .int .u32 (N Y)
  | _, _, _ => True
theorem phig1_keep (va vb : Value) (X Y : BitVec 32) (i : Nat) (v : Value) (w w' : World) (h : Phig1 va vb X Y i v w) (he : Below w.heap.size w w') : Phig1 va vb X Y i v w' := by
  unfold Phig1 at h ⊢
  split at h
  · obtain ⟨g, h1, h2⟩ := h; exact ⟨g, h1, h2.keep he h2.lt⟩
  · exact h
  · obtain ⟨g, h1, h2⟩ := h; exact ⟨g, h1, h2.keep he h2.lt⟩
  · exact h
  · trivial
theorem phig1_none (va vb : Value) (X Y : BitVec 32) (i : Nat) (v : Value) (w : World) (h : (([(66, 26), (67, 27), (69, 29), (70, 30)] : List (Nat × Nat)).all fun x => decide (x.2 ≠ i)) = true) : Phig1 va vb X Y i v w := by
  unfold Phig1
  split <;> first | trivial | (exfalso; revert h; decide)
def Cg1 : Nat → Array Bool → Bool
  | 26, _ => true
  | 27, l => l.getD 26 false
  | 29, _ => true
  | 30, l => l.getD 29 false
  | _, _ => false
theorem cg1_cases {j : Nat} {l : Array Bool} (h : Cg1 j l = true) : j = 26 ∨ j = 27 ∨ j = 29 ∨ j = 30 := by
  unfold Cg1 at h
  split at h <;> simp_all
theorem c1_27 {l : Array Bool} (h : Cg1 27 l = true) : l.getD 26 false = true := h
theorem c1_30 {l : Array Bool} (h : Cg1 30 l = true) : l.getD 29 false = true := h
def Phig2 (va : Value) (X J : BitVec 32) : Nat → Value → World → Prop
  | 40, v, w => ∃ g, v = .slice (some ⟨g, 0, none⟩) 1 1 ∧ Has w g 43 [va]
  | 41, v, _ => v = .int .u32 (N X)
  | 43, v, _ => v = .int .u32 (N J)
  | 46, v, w => ∃ g, v = .slice (some ⟨g, 0, none⟩) 1 1 ∧ Has w g 43 [va]
  | 47, v, _ => v = .int .u32 (N X)
  | 49, v, _ => v = .int .u32 (N J)
  | _, _, _ => True
theorem phig2_keep (va : Value) (X J : BitVec 32) (i : Nat) (v : Value) (w w' : World) (h : Phig2 va X J i v w) (he : Below w.heap.size w w') : Phig2 va X J i v w' := by
  unfold Phig2 at h ⊢
  split at h
  · obtain ⟨g, h1, h2⟩ := h; exact ⟨g, h1, h2.keep he h2.lt⟩
  · exact h
  · exact h
  · obtain ⟨g, h1, h2⟩ := h; exact ⟨g, h1, h2.keep he h2.lt⟩
  · exact h
  · exact h
  · trivial
theorem phig2_none (va : Value) (X J : BitVec 32) (i : Nat) (v : Value) (w : World) (h : (([(80, 40), (81, 41), (83, 43), (86, 46), (87, 47), (89, 49)] : List (Nat × Nat)).all fun x => decide (x.2 ≠ i)) = true) : Phig2 va X J i v w := by
  unfold Phig2
  split <;> first | trivial | (exfalso; revert h; decide)
def Cg2 : Nat → Array Bool → Bool
  | 40, _ => true
  | 41, l => l.getD 40 false
  | 43, l => l.getD 41 false
  | 46, _ => true
  | 47, l => l.getD 46 false
  | 49, l => l.getD 47 false
  | _, _ => false
theorem cg2_cases {j : Nat} {l : Array Bool} (h : Cg2 j l = true) : j = 40 ∨ j = 41 ∨ j = 43 ∨ j = 46 ∨ j = 47 ∨ j = 49 := by
  unfold Cg2 at h
  split at h <;> simp_all
theorem c2_41 {l : Array Bool} (h : Cg2 41 l = true) : l.getD 40 false = true := h
theorem c2_43 {l : Array Bool} (h : Cg2 43 l = true) : l.getD 41 false = true := h
theorem c2_47 {l : Array Bool} (h : Cg2 47 l = true) : l.getD 46 false = true := h
theorem c2_49 {l : Array Bool} (h : Cg2 49 l = true) : l.getD 47 false = true := h
def Phig3 (x : List (BitVec 8)) : Nat → Value → World → Prop
  | 66, v, w => ∃ q c, v = .slice q x.length c ∧ Sees w w.heap.size q (x.map u8v)
  | 67, v, _ => v = .string (strB x)
  | 69, v, w => ∃ q c, v = .slice q x.length c ∧ Sees w w.heap.size q (x.map u8v)
  | 70, v, _ => v = .string (strB x)
  | _, _, _ => True
theorem phig3_keep (x : List (BitVec 8)) (i : Nat) (v : Value) (w w' : World) (h : Phig3 x i v w) (he : Below w.heap.size w w') : Phig3 x i v w' := by
  unfold Phig3 at h ⊢
  split at h
  · obtain ⟨q, c, h1, h2⟩ := h; exact ⟨q, c, h1, (h2.keep he).more he.size⟩
  · exact h
  · obtain ⟨q, c, h1, h2⟩ := h; exact ⟨q, c, h1, (h2.keep he).more he.size⟩
  · exact h
  · trivial
theorem phig3_none (x : List (BitVec 8)) (i : Nat) (v : Value) (w : World) (h : (([(106, 66), (107, 67), (109, 69), (110, 70)] : List (Nat × Nat)).all fun x => decide (x.2 ≠ i)) = true) : Phig3 x i v w := by
  unfold Phig3
  split <;> first | trivial | (exfalso; revert h; decide)
def Cg3 : Nat → Array Bool → Bool
  | 66, _ => true
  | 67, l => l.getD 66 false
  | 69, _ => true
  | 70, l => l.getD 69 false
  | _, _ => false
theorem cg3_cases {j : Nat} {l : Array Bool} (h : Cg3 j l = true) : j = 66 ∨ j = 67 ∨ j = 69 ∨ j = 70 := by
  unfold Cg3 at h
  split at h <;> simp_all
theorem c3_67 {l : Array Bool} (h : Cg3 67 l = true) : l.getD 66 false = true := h
theorem c3_70 {l : Array Bool} (h : Cg3 70 l = true) : l.getD 69 false = true := h
noncomputable def ops8 : Array Oper := regOf Tryd.f6.body 8
set_option maxRecDepth 100000 in
theorem chk8_0 : (fun q : Array Oper => (decide (44 + ([(0, true), (1, true), (4, true), (2, false), (3, false), (5, true), (6, true), (7, true), (10, true), (12, true), (8, false), (9, false), (11, false), (13, true), (14, true), (15, true), (16, true), (17, true), (19, true), (20, true), (18, false), (21, false), (22, true), (23, true), (24, true), (25, true), (28, true), (31, true), (32, true), (34, true)] : List (Nat × Bool)).length = q.size) && (orsNB .any q [(0, true), (1, true), (4, true), (2, false), (3, false), (5, true), (6, true), (7, true), (10, true), (12, true), (8, false), (9, false), (11, false), (13, true), (14, true), (15, true), (16, true), (17, true), (19, true), (20, true), (18, false), (21, false), (22, true), (23, true), (24, true), (25, true), (28, true), (31, true), (32, true), (34, true)] (Array.replicate q.size false) && ([(0, true), (1, true), (4, true), (2, false), (3, false), (5, true), (6, true), (7, true), (10, true), (12, true), (8, false), (9, false), (11, false), (13, true), (14, true), (15, true), (16, true), (17, true), (19, true), (20, true), (18, false), (21, false), (22, true), (23, true), (24, true), (25, true), (28, true), (31, true), (32, true), (34, true)] : List (Nat × Bool)).all fun x => decide (x.1 < q.size)))) ops8 = true := by kernel_rfl
set_option maxRecDepth 100000 in
theorem chk8_1 : (fun q : Array Oper => levelsB .any q Cg1 ([(listedAfter [(0, true), (1, true), (4, true), (2, false), (3, false), (5, true), (6, true), (7, true), (10, true), (12, true), (8, false), (9, false), (11, false), (13, true), (14, true), (15, true), (16, true), (17, true), (19, true), (20, true), (18, false), (21, false), (22, true), (23, true), (24, true), (25, true), (28, true), (31, true), (32, true), (34, true)] (Array.replicate q.size false))] :: (([[[26], [29]], [[26, 27], [26, 29]], [[26, 27, 29]]] : List (List (List Nat))).map fun L => L.map (listN (listedAfter [(0, true), (1, true), (4, true), (2, false), (3, false), (5, true), (6, true), (7, true), (10, true), (12, true), (8, false), (9, false), (11, false), (13, true), (14, true), (15, true), (16, true), (17, true), (19, true), (20, true), (18, false), (21, false), (22, true), (23, true), (24, true), (25, true), (28, true), (31, true), (32, true), (34, true)] (Array.replicate q.size false)))) ++ [[listN (listedAfter [(0, true), (1, true), (4, true), (2, false), (3, false), (5, true), (6, true), (7, true), (10, true), (12, true), (8, false), (9, false), (11, false), (13, true), (14, true), (15, true), (16, true), (17, true), (19, true), (20, true), (18, false), (21, false), (22, true), (23, true), (24, true), (25, true), (28, true), (31, true), (32, true), (34, true)] (Array.replicate q.size false)) [26, 27, 29, 30]]])) ops8 = true := by kernel_rfl
set_option maxRecDepth 100000 in
theorem chk8_2 : (fun q : Array Oper => (orsNB .any q [(33, false), (35, true), (36, true), (37, true), (38, true), (39, true), (42, true), (44, true), (45, true), (48, true)] (listN (listedAfter [(0, true), (1, true), (4, true), (2, false), (3, false), (5, true), (6, true), (7, true), (10, true), (12, true), (8, false), (9, false), (11, false), (13, true), (14, true), (15, true), (16, true), (17, true), (19, true), (20, true), (18, false), (21, false), (22, true), (23, true), (24, true), (25, true), (28, true), (31, true), (32, true), (34, true)] (Array.replicate q.size false)) [26, 27, 29, 30]) && ([(33, false), (35, true), (36, true), (37, true), (38, true), (39, true), (42, true), (44, true), (45, true), (48, true)] : List (Nat × Bool)).all fun x => decide (x.1 < q.size))) ops8 = true := by kernel_rfl
set_option maxRecDepth 100000 in
theorem chk8_3 : (fun q : Array Oper => levelsB .any q Cg2 ([(listedAfter [(33, false), (35, true), (36, true), (37, true), (38, true), (39, true), (42, true), (44, true), (45, true), (48, true)] (listN (listedAfter [(0, true), (1, true), (4, true), (2, false), (3, false), (5, true), (6, true), (7, true), (10, true), (12, true), (8, false), (9, false), (11, false), (13, true), (14, true), (15, true), (16, true), (17, true), (19, true), (20, true), (18, false), (21, false), (22, true), (23, true), (24, true), (25, true), (28, true), (31, true), (32, true), (34, true)] (Array.replicate q.size false)) [26, 27, 29, 30]))] :: (([[[40], [46]], [[40, 41], [40, 46]], [[40, 41, 43], [40, 41, 46]], [[40, 41, 43, 46]], [[40, 41, 43, 46, 47]]] : List (List (List Nat))).map fun L => L.map (listN (listedAfter [(33, false), (35, true), (36, true), (37, true), (38, true), (39, true), (42, true), (44, true), (45, true), (48, true)] (listN (listedAfter [(0, true), (1, true), (4, true), (2, false), (3, false), (5, true), (6, true), (7, true), (10, true), (12, true), (8, false), (9, false), (11, false), (13, true), (14, true), (15, true), (16, true), (17, true), (19, true), (20, true), (18, false), (21, false), (22, true), (23, true), (24, true), (25, true), (28, true), (31, true), (32, true), (34, true)] (Array.replicate q.size false)) [26, 27, 29, 30])))) ++ [[listN (listedAfter [(33, false), (35, true), (36, true), (37, true), (38, true), (39, true), (42, true), (44, true), (45, true), (48, true)] (listN (listedAfter [(0, true), (1, true), (4, true), (2, false), (3, false), (5, true), (6, true), (7, true), (10, true), (12, true), (8, false), (9, false), (11, false), (13, true), (14, true), (15, true), (16, true), (17, true), (19, true), (20, true), (18, false), (21, false), (22, true), (23, true), (24, true), (25, true), (28, true), (31, true), (32, true), (34, true)] (Array.replicate q.size false)) [26, 27, 29, 30])) [40, 41, 43, 46, 47, 49]]])) ops8 = true := by kernel_rfl
set_option maxRecDepth 100000 in
theorem chk8_4 : (fun q : Array Oper => (orsNB .any q [(50, true), (51, true), (52, true), (53, true), (54, true), (55, true), (56, true), (57, true), (58, true), (59, true), (60, true), (61, true), (62, true), (63, true), (64, true), (65, true), (68, true)] (listN (listedAfter [(33, false), (35, true), (36, true), (37, true), (38, true), (39, true), (42, true), (44, true), (45, true), (48, true)] (listN (listedAfter [(0, true), (1, true), (4, true), (2, false), (3, false), (5, true), (6, true), (7, true), (10, true), (12, true), (8, false), (9, false), (11, false), (13, true), (14, true), (15, true), (16, true), (17, true), (19, true), (20, true), (18, false), (21, false), (22, true), (23, true), (24, true), (25, true), (28, true), (31, true), (32, true), (34, true)] (Array.replicate q.size false)) [26, 27, 29, 30])) [40, 41, 43, 46, 47, 49]) && ([(50, true), (51, true), (52, true), (53, true), (54, true), (55, true), (56, true), (57, true), (58, true), (59, true), (60, true), (61, true), (62, true), (63, true), (64, true), (65, true), (68, true)] : List (Nat × Bool)).all fun x => decide (x.1 < q.size))) ops8 = true := by kernel_rfl
set_option maxRecDepth 100000 in
theorem chk8_5 : (fun q : Array Oper => levelsB .any q Cg3 ([(listedAfter [(50, true), (51, true), (52, true), (53, true), (54, true), (55, true), (56, true), (57, true), (58, true), (59, true), (60, true), (61, true), (62, true), (63, true), (64, true), (65, true), (68, true)] (listN (listedAfter [(33, false), (35, true), (36, true), (37, true), (38, true), (39, true), (42, true), (44, true), (45, true), (48, true)] (listN (listedAfter [(0, true), (1, true), (4, true), (2, false), (3, false), (5, true), (6, true), (7, true), (10, true), (12, true), (8, false), (9, false), (11, false), (13, true), (14, true), (15, true), (16, true), (17, true), (19, true), (20, true), (18, false), (21, false), (22, true), (23, true), (24, true), (25, true), (28, true), (31, true), (32, true), (34, true)] (Array.replicate q.size false)) [26, 27, 29, 30])) [40, 41, 43, 46, 47, 49]))] :: (([[[66]], [[66, 67], [66, 69]], [[66, 67, 69], [66, 69, 70]]] : List (List (List Nat))).map fun L => L.map (listN (listedAfter [(50, true), (51, true), (52, true), (53, true), (54, true), (55, true), (56, true), (57, true), (58, true), (59, true), (60, true), (61, true), (62, true), (63, true), (64, true), (65, true), (68, true)] (listN (listedAfter [(33, false), (35, true), (36, true), (37, true), (38, true), (39, true), (42, true), (44, true), (45, true), (48, true)] (listN (listedAfter [(0, true), (1, true), (4, true), (2, false), (3, false), (5, true), (6, true), (7, true), (10, true), (12, true), (8, false), (9, false), (11, false), (13, true), (14, true), (15, true), (16, true), (17, true), (19, true), (20, true), (18, false), (21, false), (22, true), (23, true), (24, true), (25, true), (28, true), (31, true), (32, true), (34, true)] (Array.replicate q.size false)) [26, 27, 29, 30])) [40, 41, 43, 46, 47, 49])))) ++ [[listN (listedAfter [(50, true), (51, true), (52, true), (53, true), (54, true), (55, true), (56, true), (57, true), (58, true), (59, true), (60, true), (61, true), (62, true), (63, true), (64, true), (65, true), (68, true)] (listN (listedAfter [(33, false), (35, true), (36, true), (37, true), (38, true), (39, true), (42, true), (44, true), (45, true), (48, true)] (listN (listedAfter [(0, true), (1, true), (4, true), (2, false), (3, false), (5, true), (6, true), (7, true), (10, true), (12, true), (8, false), (9, false), (11, false), (13, true), (14, true), (15, true), (16, true), (17, true), (19, true), (20, true), (18, false), (21, false), (22, true), (23, true), (24, true), (25, true), (28, true), (31, true), (32, true), (34, true)] (Array.replicate q.size false)) [26, 27, 29, 30])) [40, 41, 43, 46, 47, 49])) [66, 67, 69, 70]]])) ops8 = true := by kernel_rfl
set_option maxRecDepth 100000 in
theorem chk8_6 : (fun q : Array Oper => (orsNB .any q [(71, true), (72, true), (73, true)] (listN (listedAfter [(50, true), (51, true), (52, true), (53, true), (54, true), (55, true), (56, true), (57, true), (58, true), (59, true), (60, true), (61, true), (62, true), (63, true), (64, true), (65, true), (68, true)] (listN (listedAfter [(33, false), (35, true), (36, true), (37, true), (38, true), (39, true), (42, true), (44, true), (45, true), (48, true)] (listN (listedAfter [(0, true), (1, true), (4, true), (2, false), (3, false), (5, true), (6, true), (7, true), (10, true), (12, true), (8, false), (9, false), (11, false), (13, true), (14, true), (15, true), (16, true), (17, true), (19, true), (20, true), (18, false), (21, false), (22, true), (23, true), (24, true), (25, true), (28, true), (31, true), (32, true), (34, true)] (Array.replicate q.size false)) [26, 27, 29, 30])) [40, 41, 43, 46, 47, 49])) [66, 67, 69, 70]) && ([(71, true), (72, true), (73, true)] : List (Nat × Bool)).all fun x => decide (x.1 < q.size))) ops8 = true := by kernel_rfl
set_option maxHeartbeats 40000000 in
set_option maxRecDepth 100000 in
theorem says_any (a b : List (BitVec 8)) (q1 q2 : Option Addr) (c1 c2 : Nat) (c : BitVec 32) (n : Int) (w : World) (s1 : Sees w w.heap.size q1 (a.map u8v)) (s2 : Sees w w.heap.size q2 (b.map u8v))
    (h1 : a.length ≤ c1) (h2 : b.length ≤ c2) (z1 : q1 = none → c1 = 0) (z2 : q2 = none → c2 = 0) (m1 : a.length ≤ maxLen) (m2 : b.length ≤ maxLen) (hn : n ≤ 9223372036854775807) (hR : Rests w) :
    Calls Tryd.prog 6 #[.slice q1 a.length c1, .slice q2 b.length c2, .int .u32 (N c), .int .i64 n] w fun e w' => e = .returned (.bool true) ∧ Below w.heap.size w w' := by
  unfold maxLen at m1 m2
  have h0 := hR.1
  have HA := Lib.hid (awake_any w hR)
  by_cases l1 : 3000 < a.length
  · have k1 : (3000 : Int) < (a.length : Int) := by omega
    clear s1 s2 h1 h2 z1 z2 hn hR l1
    go_enter Tryd.func6, Tryd.ntmps6
    go_wp2_with ((with_reducible refine HA.out.mono ?_); rintro e w1 ⟨rfl, hb1⟩)
    go_ret
    exact ⟨rfl, hb1⟩
  have k1 : ¬ (3000 : Int) < (a.length : Int) := by omega
  by_cases l2 : 3000 < b.length
  · have k2 : (3000 : Int) < (b.length : Int) := by omega
    clear s1 s2 h1 h2 z1 z2 hn hR l1 l2
    go_enter Tryd.func6, Tryd.ntmps6
    go_wp2_with ((with_reducible refine HA.out.mono ?_); rintro e w1 ⟨rfl, hb1⟩)
    go_ret
    exact ⟨rfl, hb1⟩
  have k2 : ¬ (3000 : Int) < (b.length : Int) := by omega
  have la : a.length ≤ 3000 := by omega
  have lb : b.length ≤ 3000 := by omega
  clear l1 l2 m1 m2
  obtain ⟨X, hX⟩ : ∃ X, X = crc 0#32 a := ⟨_, rfl⟩
  obtain ⟨Y, hY⟩ : ∃ Y, Y = crc 0#32 b := ⟨_, rfl⟩
  obtain ⟨T, hT⟩ : ∃ T, T = crc 0#32 (a ++ b) := ⟨_, rfl⟩
  obtain ⟨E, hE⟩ : ∃ E, E = crc c b := ⟨_, rfl⟩
  obtain ⟨J, hJ⟩ : ∃ J, J = joinN c X n := ⟨_, rfl⟩
  have eT : crc X b = T := by rw [hX, hT, crc_append]
  have RT : Hid (∀ W q c', Sees W W.heap.size q ((a ++ b).map u8v) → Calls Tryd.prog 21 #[.int .u32 0, .slice q (a ++ b).length c'] W fun e w' => e = .returned (.int .u32 (N T)) ∧ W = w') := Lib.hid (by
    intro W q c' hs; rw [hT]; exact rcrc0 (a ++ b) q c' W hs (by rw [List.length_append]; omega))
  have PO : Hid (∀ W, Below w.heap.size w W → Calls Tryd.prog 17 #[.slice q1 a.length c1] W (Opened W a)) := Lib.hid (fun W hb =>
    open_any a q1 c1 W ((s1.keep hb).more hb.size) h1 z1 (by omega) (hR.keep hb h0))
  have RO : Hid (∀ W, Below w.heap.size w W → Calls Tryd.prog 22 #[.slice q1 a.length c1] W (Opened W a)) := Lib.hid (fun W hb =>
    ropen_any a q1 c1 W ((s1.keep hb).more hb.size) h1 z1 (by omega))
  have OAB : Hid (∀ W, Below w.heap.size w W → ∀ g, Has W g 43 [.slice q1 a.length c1, .slice q2 b.length c2] → Calls Tryd.prog 16 #[.slice (some ⟨g, 0, none⟩) 2 2] W fun e w' => e = .returned (.int .u32 (N T)) ∧ Below W.heap.size W w') := Lib.hid (fun W hb g hg => by
    rw [hT]
    refine (of_two a b q1 q2 c1 c2 g W hg h1 h2 ((s1.keep hb).more hb.size) ((s2.keep hb).more hb.size) (by omega) (hR.keep hb h0)).mono ?_
    rintro e w' ⟨rfl, rfl⟩
    exact ⟨rfl, Below.refl _ _⟩)
  have OA : Hid (∀ W, Below w.heap.size w W → ∀ g, Has W g 43 [.slice q1 a.length c1] → Calls Tryd.prog 16 #[.slice (some ⟨g, 0, none⟩) 1 1] W fun e w' => e = .returned (.int .u32 (N X)) ∧ Below W.heap.size W w') := Lib.hid (fun W hb g hg => by
    rw [hX]
    refine (of_one a q1 c1 g W hg h1 ((s1.keep hb).more hb.size) (by omega) (hR.keep hb h0)).mono ?_
    rintro e w' ⟨rfl, rfl⟩
    exact ⟨rfl, Below.refl _ _⟩)
  have OB : Hid (∀ W, Below w.heap.size w W → ∀ g, Has W g 43 [.slice q2 b.length c2] → Calls Tryd.prog 16 #[.slice (some ⟨g, 0, none⟩) 1 1] W fun e w' => e = .returned (.int .u32 (N Y)) ∧ Below W.heap.size W w') := Lib.hid (fun W hb g hg => by
    rw [hY]
    refine (of_one b q2 c2 g W hg h2 ((s2.keep hb).more hb.size) (by omega) (hR.keep hb h0)).mono ?_
    rintro e w' ⟨rfl, rfl⟩
    exact ⟨rfl, Below.refl _ _⟩)
  have ON1 : Hid (∀ W, Below w.heap.size w W → Calls Tryd.prog 19 #[.int .u32 (N X), .slice q2 b.length c2] W fun e w' => e = .returned (.int .u32 (N T)) ∧ Below W.heap.size W w') := Lib.hid (fun W hb => by
    rw [← eT]; refine (on_any X b q2 c2 W ((s2.keep hb).more hb.size) (by omega) (hR.keep hb h0)).mono ?_
    rintro e w' ⟨rfl, rfl⟩
    exact ⟨rfl, Below.refl _ _⟩)
  have ON2 : Hid (∀ W, Below w.heap.size w W → Calls Tryd.prog 19 #[.int .u32 (N c), .slice q2 b.length c2] W fun e w' => e = .returned (.int .u32 (N E)) ∧ Below W.heap.size W w') := Lib.hid (fun W hb => by
    rw [hE]; refine (on_any c b q2 c2 W ((s2.keep hb).more hb.size) (by omega) (hR.keep hb h0)).mono ?_
    rintro e w' ⟨rfl, rfl⟩
    exact ⟨rfl, Below.refl _ _⟩)
  have RC : Hid (∀ W, Below w.heap.size w W → Calls Tryd.prog 21 #[.int .u32 (N c), .slice q2 b.length c2] W fun e w' => e = .returned (.int .u32 (N E)) ∧ Below W.heap.size W w') := Lib.hid (fun W hb => by
    rw [hE]; refine (rcrc_any c b q2 c2 W ((s2.keep hb).more hb.size) (by omega)).mono ?_
    rintro e w' ⟨rfl, rfl⟩
    exact ⟨rfl, Below.refl _ _⟩)
  have J1 : Hid (∀ W, Below w.heap.size w W → Calls Tryd.prog 20 #[.int .u32 (N X), .int .u32 (N Y), .int .i64 (b.length : Int)] W fun e w' => e = .returned (.int .u32 (N T)) ∧ Below W.heap.size W w') := Lib.hid (fun W _ => by
    have hj := join_any X Y b.length (by omega) W
    rw [hY, joinN_crc, eT] at hj
    rw [hY]; refine hj.mono ?_
    rintro e w' ⟨rfl, rfl⟩
    exact ⟨rfl, Below.refl _ _⟩)
  have J2 : Hid (∀ W, Below w.heap.size w W → Calls Tryd.prog 20 #[.int .u32 (N c), .int .u32 (N X), .int .i64 n] W fun e w' => e = .returned (.int .u32 (N J)) ∧ Below W.heap.size W w') := Lib.hid (fun W _ => by
    rw [hJ]; refine (join_any c X n hn W).mono ?_
    rintro e w' ⟨rfl, rfl⟩
    exact ⟨rfl, Below.refl _ _⟩)
  have RJ : Hid (∀ W, Below w.heap.size w W → Calls Tryd.prog 23 #[.int .u32 (N c), .int .u32 (N X), .int .i64 n] W fun e w' => e = .returned (.int .u32 (N J)) ∧ Below W.heap.size W w') := Lib.hid (fun W _ => by
    rw [hJ]; exact crcjoin_any c X n hn W)
  have SA : Hid (∀ W, Below w.heap.size w W → Calls Tryd.prog 18 #[.slice q1 a.length c1] W (Reads W (sealL a))) := Lib.hid (fun W hb =>
    (seal_any a q1 c1 W ((s1.keep hb).more hb.size) h1 z1 (by omega) (hR.keep hb h0)).mono fun _ _ h => h.reads (Below.refl _ _))
  have RS : Hid (∀ W, Below w.heap.size w W → Calls Tryd.prog 24 #[.slice q1 a.length c1] W (Reads W (sealL a))) := Lib.hid (fun W hb =>
    (rseal_any a q1 c1 W ((s1.keep hb).more hb.size) z1 (by omega)).mono fun _ _ h => h.reads (Below.refl _ _))
  have S1 := Lib.hid s1
  have S2 := Lib.hid s2
  have Z1 := Lib.hid z1
  have Z2 := Lib.hid z2
  have heq1 := strB_beq (openL a) (openL a)
  have heq2 := strB_beq (sealL a) (sealL a)
  rw [decide_eq_true rfl] at heq1 heq2
  clear s1 s2 z1 z2 h1 h2 hR hX hY hT hE hJ eT hn
  go_enter Tryd.func6, Tryd.ntmps6
  go_wp2_with fail
  refine HA.out.mono ?_
  rintro e w1 ⟨rfl, hb1⟩
  have B1 : Hid (Below w.heap.size w (w1.alloc (.cells #[] 5))) := Lib.hid (hb1.alloc hb1.size _)
  have O1 := Lib.hid (empty_own w1 w.heap.size hb1.size)
  have SS1 := Lib.hid (S1.out.keep B1.out)
  clear hb1 HA
  go_upto_region 6 with (first
    | (at_builtin
       refine wpList_append_sees rfl (.tmp 24) (.tmp 25) rfl w.heap.size _ 0 [] rfl O1.out q1 a c1 w.heap.size rfl Z1.out SS1.out (by omega) B1.out.size ?_
       intro v2 w2 h1 h2
       have O2 := Lib.hid h1
       have B2 := Lib.hid (B1.out.trans h2)
       have SS2 := Lib.hid (S2.out.keep B2.out)
       clear h1 h2)
    | (at_builtin
       refine wpList_append_sees rfl (.tmp 26) (.tmp 27) rfl w.heap.size v2 (0 + a.length) ([] ++ a.map u8v) rfl O2.out q2 b c2 w.heap.size rfl Z2.out SS2.out (by omega) B2.out.size ?_
       intro v3 w3 h1 h2
       rw [List.nil_append, ← List.map_append] at h1
       have B3 := Lib.hid (B2.out.trans h2)
       obtain ⟨q3, c3, rfl, _, _, hs3⟩ := Bs.own h1
       have r3 := RT.out _ _ c3 hs3
       rw [List.length_append] at r3
       have R3 := Lib.hid r3
       clear h1 h2 hs3 r3)
    | ((with_reducible refine R3.out.mono ?_); rintro e w4 ⟨rfl, rfl⟩))
  clear B1 O1 SS1 O2 B2 SS2 R3
  go_upto_region 8 with (first
    | ((with_reducible refine (PO.out _ B3.out).mono ?_)
       rintro e w5 ⟨v, rfl, ⟨q5, c5, rfl, _, _, hs5⟩, hb5⟩
       have S5 := Lib.hid hs5
       have B5 := Lib.hid (B3.out.trans (hb5.mono B3.out.size))
       clear hs5 hb5)
    | ((with_reducible refine (RO.out _ B5.out).mono ?_)
       rintro e w6 ⟨v, rfl, ⟨q6, c6, rfl, _, _, hs6⟩, hb6⟩
       have S6 := Lib.hid hs6
       have T5 := Lib.hid ((S5.out.keep hb6).more hb6.size)
       have B6 := Lib.hid (B5.out.trans (hb6.mono B5.out.size))
       clear hs6 hb6 S5))
  have hB6 := B6.out
  replace OAB := Lib.hid (fun W (hb : Below w6.heap.size w6 W) => OAB.out W (hB6.trans (hb.mono hB6.size)))
  replace OA := Lib.hid (fun W (hb : Below w6.heap.size w6 W) => OA.out W (hB6.trans (hb.mono hB6.size)))
  replace OB := Lib.hid (fun W (hb : Below w6.heap.size w6 W) => OB.out W (hB6.trans (hb.mono hB6.size)))
  replace ON1 := Lib.hid (fun W (hb : Below w6.heap.size w6 W) => ON1.out W (hB6.trans (hb.mono hB6.size)))
  replace ON2 := Lib.hid (fun W (hb : Below w6.heap.size w6 W) => ON2.out W (hB6.trans (hb.mono hB6.size)))
  replace RC := Lib.hid (fun W (hb : Below w6.heap.size w6 W) => RC.out W (hB6.trans (hb.mono hB6.size)))
  replace J1 := Lib.hid (fun W (hb : Below w6.heap.size w6 W) => J1.out W (hB6.trans (hb.mono hB6.size)))
  replace J2 := Lib.hid (fun W (hb : Below w6.heap.size w6 W) => J2.out W (hB6.trans (hb.mono hB6.size)))
  replace RJ := Lib.hid (fun W (hb : Below w6.heap.size w6 W) => RJ.out W (hB6.trans (hb.mono hB6.size)))
  replace SA := Lib.hid (fun W (hb : Below w6.heap.size w6 W) => SA.out W (hB6.trans (hb.mono hB6.size)))
  replace RS := Lib.hid (fun W (hb : Below w6.heap.size w6 W) => RS.out W (hB6.trans (hb.mono hB6.size)))
  replace T5 : Hid (∀ W, Below w6.heap.size w6 W → (convert 43 9 (.slice q5 (openL a).length c5)).run Tryd.prog W = .ok (.string (strB (openL a))) W) := Lib.hid (fun W hb => str_run (openL a) q5 c5 _ _ (T5.out.keep hb))
  have T6 : Hid (∀ W, Below w6.heap.size w6 W → (convert 43 9 (.slice q6 (openL a).length c6)).run Tryd.prog W = .ok (.string (strB (openL a))) W) := Lib.hid (fun W hb => str_run (openL a) q6 c6 _ _ (S6.out.keep hb))
  clear hB6 B3 B5 RT PO RO S6 S1 S2 Z1 Z2
  try simp only [List.append_eq, List.cons_append, List.nil_append]
  refine wp_region_orsK (fun W => Below w6.heap.size w6 W) _ [(0, true), (1, true), (4, true), (2, false), (3, false), (5, true), (6, true), (7, true), (10, true), (12, true), (8, false), (9, false), (11, false), (13, true), (14, true), (15, true), (16, true), (17, true), (19, true), (20, true), (18, false), (21, false), (22, true), (23, true), (24, true), (25, true), (28, true), (31, true), (32, true), (34, true)] 44 (by kernel_rfl) (by kernel_rfl) (Eq.trans (congrArg (fun q : Array Oper => (decide (44 + ([(0, true), (1, true), (4, true), (2, false), (3, false), (5, true), (6, true), (7, true), (10, true), (12, true), (8, false), (9, false), (11, false), (13, true), (14, true), (15, true), (16, true), (17, true), (19, true), (20, true), (18, false), (21, false), (22, true), (23, true), (24, true), (25, true), (28, true), (31, true), (32, true), (34, true)] : List (Nat × Bool)).length = q.size) && (orsNB .any q [(0, true), (1, true), (4, true), (2, false), (3, false), (5, true), (6, true), (7, true), (10, true), (12, true), (8, false), (9, false), (11, false), (13, true), (14, true), (15, true), (16, true), (17, true), (19, true), (20, true), (18, false), (21, false), (22, true), (23, true), (24, true), (25, true), (28, true), (31, true), (32, true), (34, true)] (Array.replicate q.size false) && ([(0, true), (1, true), (4, true), (2, false), (3, false), (5, true), (6, true), (7, true), (10, true), (12, true), (8, false), (9, false), (11, false), (13, true), (14, true), (15, true), (16, true), (17, true), (19, true), (20, true), (18, false), (21, false), (22, true), (23, true), (24, true), (25, true), (28, true), (31, true), (32, true), (34, true)] : List (Nat × Bool)).all fun x => decide (x.1 < q.size)))) (show _ = ops8 by kernel_rfl)) chk8_0) (Below.refl _ _).drew ?_ (fun _ _ _ h => h)
  simp only [pickOrs, List.getElem?_cons_zero, List.getElem?_cons_succ]
  have s0 : Hid (Below w6.heap.size w6 w6.drew) := Lib.hid (Below.refl _ _).drew
  generalize w6.drew = v0 at *
  refine orsK_pure (v := ?_) (by rfl) ?_ ?_
  rotate_left
  · intro w' hw; have t5 := T5.out w' hw; have t6 := T6.out w' hw; go_simp; try with_reducible rfl
  try simp only [Act.put, List.setIfInBounds_toArray, List.set_cons_zero, List.set_cons_succ]
  refine orsK_pure (v := ?_) (by rfl) ?_ ?_
  rotate_left
  · intro w' hw; have t5 := T5.out w' hw; have t6 := T6.out w' hw; go_simp; try with_reducible rfl
  try simp only [Act.put, List.setIfInBounds_toArray, List.set_cons_zero, List.set_cons_succ]
  refine orsK_pure (v := ?_) (by rfl) ?_ ?_
  rotate_left
  · intro w' hw; have t5 := T5.out w' hw; have t6 := T6.out w' hw; go_simp; try with_reducible rfl
  try simp only [Act.put, List.setIfInBounds_toArray, List.set_cons_zero, List.set_cons_succ]
  refine orsK_step (by rfl) (fun K hK => ?_)
  go_wp2_with fail
  have s1 : Hid (Below w6.heap.size w6 (v0.alloc (.cells #[.slice q1 a.length c1, .slice q2 b.length c2] 43))) := Lib.hid (s0.out.alloc s0.out.size _)
  have m1 : Hid (Has (v0.alloc (.cells #[.slice q1 a.length c1, .slice q2 b.length c2] 43)) v0.heap.size 43 [.slice q1 a.length c1, .slice q2 b.length c2]) := Lib.hid (Has.made' _ _ _ _ rfl)
  generalize v0.alloc (.cells #[.slice q1 a.length c1, .slice q2 b.length c2] 43) = v1 at *
  generalize v0.heap.size = g1 at *
  refine ⟨s1.out, ?_⟩
  try simp only [Act.put, List.setIfInBounds_toArray, List.set_cons_zero, List.set_cons_succ]
  refine orsK_step (by rfl) (fun K hK => ?_)
  go_wp2_with fail
  (with_reducible refine (OAB.out _ s1.out _ m1.out).mono ?_)
  rintro e v2 ⟨rfl, hv⟩
  have s2 := Lib.hid (s1.out.trans (hv.mono s1.out.size))
  clear hv
  go_wp2_with fail
  refine ⟨s2.out, ?_⟩
  try simp only [Act.put, List.setIfInBounds_toArray, List.set_cons_zero, List.set_cons_succ]
  refine orsK_pure (v := ?_) (by rfl) ?_ ?_
  rotate_left
  · intro w' hw; have t5 := T5.out w' hw; have t6 := T6.out w' hw; go_simp; try with_reducible rfl
  try simp only [Act.put, List.setIfInBounds_toArray, List.set_cons_zero, List.set_cons_succ]
  refine orsK_pure (v := ?_) (by rfl) ?_ ?_
  rotate_left
  · intro w' hw; have t5 := T5.out w' hw; have t6 := T6.out w' hw; go_simp; try with_reducible rfl
  try simp only [Act.put, List.setIfInBounds_toArray, List.set_cons_zero, List.set_cons_succ]
  refine orsK_pure (v := ?_) (by rfl) ?_ ?_
  rotate_left
  · intro w' hw; have t5 := T5.out w' hw; have t6 := T6.out w' hw; go_simp; try with_reducible rfl
  try simp only [Act.put, List.setIfInBounds_toArray, List.set_cons_zero, List.set_cons_succ]
  refine orsK_pure (v := ?_) (by rfl) ?_ ?_
  rotate_left
  · intro w' hw; have t5 := T5.out w' hw; have t6 := T6.out w' hw; go_simp; try with_reducible rfl
  try simp only [Act.put, List.setIfInBounds_toArray, List.set_cons_zero, List.set_cons_succ]
  refine orsK_pure (v := ?_) (by rfl) ?_ ?_
  rotate_left
  · intro w' hw; have t5 := T5.out w' hw; have t6 := T6.out w' hw; go_simp; try with_reducible rfl
  try simp only [Act.put, List.setIfInBounds_toArray, List.set_cons_zero, List.set_cons_succ]
  refine orsK_step (by rfl) (fun K hK => ?_)
  go_wp2_with fail
  have s3 : Hid (Below w6.heap.size w6 (v2.alloc (.cells #[.slice q1 a.length c1] 43))) := Lib.hid (s2.out.alloc s2.out.size _)
  have m3 : Hid (Has (v2.alloc (.cells #[.slice q1 a.length c1] 43)) v2.heap.size 43 [.slice q1 a.length c1]) := Lib.hid (Has.made' _ _ _ _ rfl)
  generalize v2.alloc (.cells #[.slice q1 a.length c1] 43) = v3 at *
  generalize v2.heap.size = g3 at *
  refine ⟨s3.out, ?_⟩
  try simp only [Act.put, List.setIfInBounds_toArray, List.set_cons_zero, List.set_cons_succ]
  refine orsK_step (by rfl) (fun K hK => ?_)
  go_wp2_with fail
  (with_reducible refine (OA.out _ s3.out _ m3.out).mono ?_)
  rintro e v4 ⟨rfl, hv⟩
  have s4 := Lib.hid (s3.out.trans (hv.mono s3.out.size))
  clear hv
  go_wp2_with fail
  refine ⟨s4.out, ?_⟩
  try simp only [Act.put, List.setIfInBounds_toArray, List.set_cons_zero, List.set_cons_succ]
  refine orsK_step (by rfl) (fun K hK => ?_)
  go_wp2_with fail
  (with_reducible refine (ON1.out _ s4.out).mono ?_)
  rintro e v5 ⟨rfl, hv⟩
  have s5 := Lib.hid (s4.out.trans (hv.mono s4.out.size))
  clear hv
  go_wp2_with fail
  refine ⟨s5.out, ?_⟩
  try simp only [Act.put, List.setIfInBounds_toArray, List.set_cons_zero, List.set_cons_succ]
  refine orsK_pure (v := ?_) (by rfl) ?_ ?_
  rotate_left
  · intro w' hw; have t5 := T5.out w' hw; have t6 := T6.out w' hw; go_simp; try with_reducible rfl
  try simp only [Act.put, List.setIfInBounds_toArray, List.set_cons_zero, List.set_cons_succ]
  refine orsK_pure (v := ?_) (by rfl) ?_ ?_
  rotate_left
  · intro w' hw; have t5 := T5.out w' hw; have t6 := T6.out w' hw; go_simp; try with_reducible rfl
  try simp only [Act.put, List.setIfInBounds_toArray, List.set_cons_zero, List.set_cons_succ]
  refine orsK_pure (v := ?_) (by rfl) ?_ ?_
  rotate_left
  · intro w' hw; have t5 := T5.out w' hw; have t6 := T6.out w' hw; go_simp; try with_reducible rfl
  try simp only [Act.put, List.setIfInBounds_toArray, List.set_cons_zero, List.set_cons_succ]
  refine orsK_pure (v := ?_) (by rfl) ?_ ?_
  rotate_left
  · intro w' hw; have t5 := T5.out w' hw; have t6 := T6.out w' hw; go_simp; try with_reducible rfl
  try simp only [Act.put, List.setIfInBounds_toArray, List.set_cons_zero, List.set_cons_succ]
  refine orsK_pure (v := ?_) (by rfl) ?_ ?_
  rotate_left
  · intro w' hw; have t5 := T5.out w' hw; have t6 := T6.out w' hw; go_simp; try with_reducible rfl
  try simp only [Act.put, List.setIfInBounds_toArray, List.set_cons_zero, List.set_cons_succ]
  refine orsK_pure (v := ?_) (by rfl) ?_ ?_
  rotate_left
  · intro w' hw; have t5 := T5.out w' hw; have t6 := T6.out w' hw; go_simp; try with_reducible rfl
  try simp only [Act.put, List.setIfInBounds_toArray, List.set_cons_zero, List.set_cons_succ]
  refine orsK_pure (v := ?_) (by rfl) ?_ ?_
  rotate_left
  · intro w' hw; have t5 := T5.out w' hw; have t6 := T6.out w' hw; go_simp; try with_reducible rfl
  try simp only [Act.put, List.setIfInBounds_toArray, List.set_cons_zero, List.set_cons_succ]
  refine orsK_step (by rfl) (fun K hK => ?_)
  go_wp2_with fail
  (with_reducible refine (ON2.out _ s5.out).mono ?_)
  rintro e v6 ⟨rfl, hv⟩
  have s6 := Lib.hid (s5.out.trans (hv.mono s5.out.size))
  clear hv
  go_wp2_with fail
  refine ⟨s6.out, ?_⟩
  try simp only [Act.put, List.setIfInBounds_toArray, List.set_cons_zero, List.set_cons_succ]
  refine orsK_step (by rfl) (fun K hK => ?_)
  go_wp2_with fail
  (with_reducible refine (RC.out _ s6.out).mono ?_)
  rintro e v7 ⟨rfl, hv⟩
  have s7 := Lib.hid (s6.out.trans (hv.mono s6.out.size))
  clear hv
  go_wp2_with fail
  refine ⟨s7.out, ?_⟩
  try simp only [Act.put, List.setIfInBounds_toArray, List.set_cons_zero, List.set_cons_succ]
  refine orsK_pure (v := ?_) (by rfl) ?_ ?_
  rotate_left
  · intro w' hw; have t5 := T5.out w' hw; have t6 := T6.out w' hw; go_simp; try with_reducible rfl
  try simp only [Act.put, List.setIfInBounds_toArray, List.set_cons_zero, List.set_cons_succ]
  refine orsK_pure (v := ?_) (by rfl) ?_ ?_
  rotate_left
  · intro w' hw; have t5 := T5.out w' hw; have t6 := T6.out w' hw; go_simp; try with_reducible rfl
  try simp only [Act.put, List.setIfInBounds_toArray, List.set_cons_zero, List.set_cons_succ]
  refine orsK_pure (v := ?_) (by rfl) ?_ ?_
  rotate_left
  · intro w' hw; have t5 := T5.out w' hw; have t6 := T6.out w' hw; go_simp; try with_reducible rfl
  try simp only [Act.put, List.setIfInBounds_toArray, List.set_cons_zero, List.set_cons_succ]
  refine orsK_pure (v := ?_) (by rfl) ?_ ?_
  rotate_left
  · intro w' hw; have t5 := T5.out w' hw; have t6 := T6.out w' hw; go_simp; try with_reducible rfl
  try simp only [Act.put, List.setIfInBounds_toArray, List.set_cons_zero, List.set_cons_succ]
  refine orsK_pure (v := ?_) (by rfl) ?_ ?_
  rotate_left
  · intro w' hw; have t5 := T5.out w' hw; have t6 := T6.out w' hw; go_simp; try with_reducible rfl
  try simp only [Act.put, List.setIfInBounds_toArray, List.set_cons_zero, List.set_cons_succ]
  refine orsK_pure (v := ?_) (by rfl) ?_ ?_
  rotate_left
  · intro w' hw; have t5 := T5.out w' hw; have t6 := T6.out w' hw; go_simp; try with_reducible rfl
  try simp only [Act.put, List.setIfInBounds_toArray, List.set_cons_zero, List.set_cons_succ]
  refine orsK_pure (v := ?_) (by rfl) ?_ ?_
  rotate_left
  · intro w' hw; have t5 := T5.out w' hw; have t6 := T6.out w' hw; go_simp; try with_reducible rfl
  try simp only [Act.put, List.setIfInBounds_toArray, List.set_cons_zero, List.set_cons_succ]
  refine orsK_pure (v := ?_) (by rfl) ?_ ?_
  rotate_left
  · intro w' hw; have t5 := T5.out w' hw; have t6 := T6.out w' hw; go_simp; try with_reducible rfl
  try simp only [Act.put, List.setIfInBounds_toArray, List.set_cons_zero, List.set_cons_succ]
  refine orsK_nil ?_
  show wpAnyH _ _ _ _ _ (40 + (3 + 1)) _ _ _
  refine wpAnyH_group [(66, 26), (67, 27), (69, 29), (70, 30)] Cg1 (Phig1 (.slice q1 a.length c1) (.slice q2 b.length c2) X Y) (fun w w' => Below w.heap.size w w') _ 40 [[[26], [29]], [[26, 27], [26, 29]], [[26, 27, 29]]] [26, 27, 29, 30] (phig1_keep (.slice q1 a.length c1) (.slice q2 b.length c2) X Y) (by kernel_rfl) (phig1_none (.slice q1 a.length c1) (.slice q2 b.length c2) X Y) (by kernel_rfl) s7.out (Eq.trans (congrArg (fun q : Array Oper => levelsB .any q Cg1 ([(listedAfter [(0, true), (1, true), (4, true), (2, false), (3, false), (5, true), (6, true), (7, true), (10, true), (12, true), (8, false), (9, false), (11, false), (13, true), (14, true), (15, true), (16, true), (17, true), (19, true), (20, true), (18, false), (21, false), (22, true), (23, true), (24, true), (25, true), (28, true), (31, true), (32, true), (34, true)] (Array.replicate q.size false))] :: (([[[26], [29]], [[26, 27], [26, 29]], [[26, 27, 29]]] : List (List (List Nat))).map fun L => L.map (listN (listedAfter [(0, true), (1, true), (4, true), (2, false), (3, false), (5, true), (6, true), (7, true), (10, true), (12, true), (8, false), (9, false), (11, false), (13, true), (14, true), (15, true), (16, true), (17, true), (19, true), (20, true), (18, false), (21, false), (22, true), (23, true), (24, true), (25, true), (28, true), (31, true), (32, true), (34, true)] (Array.replicate q.size false)))) ++ [[listN (listedAfter [(0, true), (1, true), (4, true), (2, false), (3, false), (5, true), (6, true), (7, true), (10, true), (12, true), (8, false), (9, false), (11, false), (13, true), (14, true), (15, true), (16, true), (17, true), (19, true), (20, true), (18, false), (21, false), (22, true), (23, true), (24, true), (25, true), (28, true), (31, true), (32, true), (34, true)] (Array.replicate q.size false)) [26, 27, 29, 30]]])) (show _ = ops8 by kernel_rfl)) chk8_1) ?_ ?_
  · intro l f v j hC hS hf
    have hS' := Lib.hid hS
    clear hS s7
    rcases cg1_cases hC with rfl | rfl | rfl | rfl
    · refine ⟨_, 66, (by rfl), (by rfl), (by simp), (by simp only [putAll, Act.put, List.setIfInBounds_toArray, List.set_cons_zero, List.set_cons_succ]; rfl), fun K hK => ?_⟩
      clear hf hC
      simp only [putAll, Act.put, List.setIfInBounds_toArray, List.set_cons_zero, List.set_cons_succ] at hK ⊢
      go_wp2_with fail
      exact hK _ _ (hS'.out.alloc hS'.out.size _) ((Below.refl _ _).alloc (Nat.le_refl _) _) ⟨_, rfl, Has.made' _ _ _ _ rfl⟩
    · refine ⟨_, 67, (by rfl), (by rfl), (by simp), (by simp only [putAll, Act.put, List.setIfInBounds_toArray, List.set_cons_zero, List.set_cons_succ]; rfl), fun K hK => ?_⟩
      have hx : Phig1 (.slice q1 a.length c1) (.slice q2 b.length c2) X Y 26 (f 26) v := hf 26 (c1_27 hC)
      simp only [Phig1] at hx
      obtain ⟨g, h26, hg⟩ := hx
      clear hf hC
      simp only [h26, putAll, Act.put, List.setIfInBounds_toArray, List.set_cons_zero, List.set_cons_succ] at hK ⊢
      go_wp2_with fail
      (with_reducible refine (OA.out _ hS'.out _ hg).mono ?_)
      rintro e v2 ⟨rfl, hv⟩
      have HV := Lib.hid hv
      clear hv
      go_wp2_with fail
      exact hK _ _ (hS'.out.trans (HV.out.mono hS'.out.size)) HV.out rfl
    · refine ⟨_, 69, (by rfl), (by rfl), (by simp), (by simp only [putAll, Act.put, List.setIfInBounds_toArray, List.set_cons_zero, List.set_cons_succ]; rfl), fun K hK => ?_⟩
      clear hf hC
      simp only [putAll, Act.put, List.setIfInBounds_toArray, List.set_cons_zero, List.set_cons_succ] at hK ⊢
      go_wp2_with fail
      exact hK _ _ (hS'.out.alloc hS'.out.size _) ((Below.refl _ _).alloc (Nat.le_refl _) _) ⟨_, rfl, Has.made' _ _ _ _ rfl⟩
    · refine ⟨_, 70, (by rfl), (by rfl), (by simp), (by simp only [putAll, Act.put, List.setIfInBounds_toArray, List.set_cons_zero, List.set_cons_succ]; rfl), fun K hK => ?_⟩
      have hx : Phig1 (.slice q1 a.length c1) (.slice q2 b.length c2) X Y 29 (f 29) v := hf 29 (c1_30 hC)
      simp only [Phig1] at hx
      obtain ⟨g, h29, hg⟩ := hx
      clear hf hC
      simp only [h29, putAll, Act.put, List.setIfInBounds_toArray, List.set_cons_zero, List.set_cons_succ] at hK ⊢
      go_wp2_with fail
      (with_reducible refine (OB.out _ hS'.out _ hg).mono ?_)
      rintro e v2 ⟨rfl, hv⟩
      have HV := Lib.hid hv
      clear hv
      go_wp2_with fail
      exact hK _ _ (hS'.out.trans (HV.out.mono hS'.out.size)) HV.out rfl
  · intro f v8 hS hf
    have s8 := Lib.hid hS
    clear hS s7
    have h27 : Phig1 (.slice q1 a.length c1) (.slice q2 b.length c2) X Y 27 (f 27) v8 := hf 27 (by kernel_rfl)
    simp only [Phig1] at h27
    have h30 : Phig1 (.slice q1 a.length c1) (.slice q2 b.length c2) X Y 30 (f 30) v8 := hf 30 (by kernel_rfl)
    simp only [Phig1] at h30
    clear hf
    simp only [h27, h30, putAll, Act.put, List.setIfInBounds_toArray, List.set_cons_zero, List.set_cons_succ]
    clear h27 h30
    show wpAnyH _ _ _ _ _ (30 + 10) _ _ _
    refine wpAnyH_orsK _ [(33, false), (35, true), (36, true), (37, true), (38, true), (39, true), (42, true), (44, true), (45, true), (48, true)] 30 (by kernel_rfl) (Eq.trans (congrArg (fun q : Array Oper => (orsNB .any q [(33, false), (35, true), (36, true), (37, true), (38, true), (39, true), (42, true), (44, true), (45, true), (48, true)] (listN (listedAfter [(0, true), (1, true), (4, true), (2, false), (3, false), (5, true), (6, true), (7, true), (10, true), (12, true), (8, false), (9, false), (11, false), (13, true), (14, true), (15, true), (16, true), (17, true), (19, true), (20, true), (18, false), (21, false), (22, true), (23, true), (24, true), (25, true), (28, true), (31, true), (32, true), (34, true)] (Array.replicate q.size false)) [26, 27, 29, 30]) && ([(33, false), (35, true), (36, true), (37, true), (38, true), (39, true), (42, true), (44, true), (45, true), (48, true)] : List (Nat × Bool)).all fun x => decide (x.1 < q.size))) (show _ = ops8 by kernel_rfl)) chk8_2) s8.out ?_ (fun _ _ _ h => h)
    simp only [pickOrs, List.getElem?_cons_zero, List.getElem?_cons_succ]
    refine orsK_step (by rfl) (fun K hK => ?_)
    go_wp2_with fail
    (with_reducible refine (J1.out _ s8.out).mono ?_)
    rintro e v9 ⟨rfl, hv⟩
    have s9 := Lib.hid (s8.out.trans (hv.mono s8.out.size))
    clear hv
    go_wp2_with fail
    refine ⟨s9.out, ?_⟩
    try simp only [Act.put, List.setIfInBounds_toArray, List.set_cons_zero, List.set_cons_succ]
    refine orsK_pure (v := ?_) (by rfl) ?_ ?_
    rotate_left
    · intro w' hw; have t5 := T5.out w' hw; have t6 := T6.out w' hw; go_simp; try with_reducible rfl
    try simp only [Act.put, List.setIfInBounds_toArray, List.set_cons_zero, List.set_cons_succ]
    refine orsK_pure (v := ?_) (by rfl) ?_ ?_
    rotate_left
    · intro w' hw; have t5 := T5.out w' hw; have t6 := T6.out w' hw; go_simp; try with_reducible rfl
    try simp only [Act.put, List.setIfInBounds_toArray, List.set_cons_zero, List.set_cons_succ]
    refine orsK_pure (v := ?_) (by rfl) ?_ ?_
    rotate_left
    · intro w' hw; have t5 := T5.out w' hw; have t6 := T6.out w' hw; go_simp; try with_reducible rfl
    try simp only [Act.put, List.setIfInBounds_toArray, List.set_cons_zero, List.set_cons_succ]
    refine orsK_pure (v := ?_) (by rfl) ?_ ?_
    rotate_left
    · intro w' hw; have t5 := T5.out w' hw; have t6 := T6.out w' hw; go_simp; try with_reducible rfl
    try simp only [Act.put, List.setIfInBounds_toArray, List.set_cons_zero, List.set_cons_succ]
    refine orsK_pure (v := ?_) (by rfl) ?_ ?_
    rotate_left
    · intro w' hw; have t5 := T5.out w' hw; have t6 := T6.out w' hw; go_simp; try with_reducible rfl
    try simp only [Act.put, List.setIfInBounds_toArray, List.set_cons_zero, List.set_cons_succ]
    refine orsK_pure (v := ?_) (by rfl) ?_ ?_
    rotate_left
    · intro w' hw; have t5 := T5.out w' hw; have t6 := T6.out w' hw; go_simp; try with_reducible rfl
    try simp only [Act.put, List.setIfInBounds_toArray, List.set_cons_zero, List.set_cons_succ]
    refine orsK_pure (v := ?_) (by rfl) ?_ ?_
    rotate_left
    · intro w' hw; have t5 := T5.out w' hw; have t6 := T6.out w' hw; go_simp; try with_reducible rfl
    try simp only [Act.put, List.setIfInBounds_toArray, List.set_cons_zero, List.set_cons_succ]
    refine orsK_pure (v := ?_) (by rfl) ?_ ?_
    rotate_left
    · intro w' hw; have t5 := T5.out w' hw; have t6 := T6.out w' hw; go_simp; try with_reducible rfl
    try simp only [Act.put, List.setIfInBounds_toArray, List.set_cons_zero, List.set_cons_succ]
    refine orsK_pure (v := ?_) (by rfl) ?_ ?_
    rotate_left
    · intro w' hw; have t5 := T5.out w' hw; have t6 := T6.out w' hw; go_simp; try with_reducible rfl
    try simp only [Act.put, List.setIfInBounds_toArray, List.set_cons_zero, List.set_cons_succ]
    refine orsK_nil ?_
    show wpAnyH _ _ _ _ _ (24 + (5 + 1)) _ _ _
    refine wpAnyH_group [(80, 40), (81, 41), (83, 43), (86, 46), (87, 47), (89, 49)] Cg2 (Phig2 (.slice q1 a.length c1) X J) (fun w w' => Below w.heap.size w w') _ 24 [[[40], [46]], [[40, 41], [40, 46]], [[40, 41, 43], [40, 41, 46]], [[40, 41, 43, 46]], [[40, 41, 43, 46, 47]]] [40, 41, 43, 46, 47, 49] (phig2_keep (.slice q1 a.length c1) X J) (by kernel_rfl) (phig2_none (.slice q1 a.length c1) X J) (by kernel_rfl) s9.out (Eq.trans (congrArg (fun q : Array Oper => levelsB .any q Cg2 ([(listedAfter [(33, false), (35, true), (36, true), (37, true), (38, true), (39, true), (42, true), (44, true), (45, true), (48, true)] (listN (listedAfter [(0, true), (1, true), (4, true), (2, false), (3, false), (5, true), (6, true), (7, true), (10, true), (12, true), (8, false), (9, false), (11, false), (13, true), (14, true), (15, true), (16, true), (17, true), (19, true), (20, true), (18, false), (21, false), (22, true), (23, true), (24, true), (25, true), (28, true), (31, true), (32, true), (34, true)] (Array.replicate q.size false)) [26, 27, 29, 30]))] :: (([[[40], [46]], [[40, 41], [40, 46]], [[40, 41, 43], [40, 41, 46]], [[40, 41, 43, 46]], [[40, 41, 43, 46, 47]]] : List (List (List Nat))).map fun L => L.map (listN (listedAfter [(33, false), (35, true), (36, true), (37, true), (38, true), (39, true), (42, true), (44, true), (45, true), (48, true)] (listN (listedAfter [(0, true), (1, true), (4, true), (2, false), (3, false), (5, true), (6, true), (7, true), (10, true), (12, true), (8, false), (9, false), (11, false), (13, true), (14, true), (15, true), (16, true), (17, true), (19, true), (20, true), (18, false), (21, false), (22, true), (23, true), (24, true), (25, true), (28, true), (31, true), (32, true), (34, true)] (Array.replicate q.size false)) [26, 27, 29, 30])))) ++ [[listN (listedAfter [(33, false), (35, true), (36, true), (37, true), (38, true), (39, true), (42, true), (44, true), (45, true), (48, true)] (listN (listedAfter [(0, true), (1, true), (4, true), (2, false), (3, false), (5, true), (6, true), (7, true), (10, true), (12, true), (8, false), (9, false), (11, false), (13, true), (14, true), (15, true), (16, true), (17, true), (19, true), (20, true), (18, false), (21, false), (22, true), (23, true), (24, true), (25, true), (28, true), (31, true), (32, true), (34, true)] (Array.replicate q.size false)) [26, 27, 29, 30])) [40, 41, 43, 46, 47, 49]]])) (show _ = ops8 by kernel_rfl)) chk8_3) ?_ ?_
    · intro l f v j hC hS hf
      have hS' := Lib.hid hS
      clear hS s9
      rcases cg2_cases hC with rfl | rfl | rfl | rfl | rfl | rfl
      · refine ⟨_, 80, (by rfl), (by rfl), (by simp), (by simp only [putAll, Act.put, List.setIfInBounds_toArray, List.set_cons_zero, List.set_cons_succ]; rfl), fun K hK => ?_⟩
        clear hf hC
        simp only [putAll, Act.put, List.setIfInBounds_toArray, List.set_cons_zero, List.set_cons_succ] at hK ⊢
        go_wp2_with fail
        exact hK _ _ (hS'.out.alloc hS'.out.size _) ((Below.refl _ _).alloc (Nat.le_refl _) _) ⟨_, rfl, Has.made' _ _ _ _ rfl⟩
      · refine ⟨_, 81, (by rfl), (by rfl), (by simp), (by simp only [putAll, Act.put, List.setIfInBounds_toArray, List.set_cons_zero, List.set_cons_succ]; rfl), fun K hK => ?_⟩
        have hx : Phig2 (.slice q1 a.length c1) X J 40 (f 40) v := hf 40 (c2_41 hC)
        simp only [Phig2] at hx
        obtain ⟨g, h40, hg⟩ := hx
        clear hf hC
        simp only [h40, putAll, Act.put, List.setIfInBounds_toArray, List.set_cons_zero, List.set_cons_succ] at hK ⊢
        go_wp2_with fail
        (with_reducible refine (OA.out _ hS'.out _ hg).mono ?_)
        rintro e v2 ⟨rfl, hv⟩
        have HV := Lib.hid hv
        clear hv
        go_wp2_with fail
        exact hK _ _ (hS'.out.trans (HV.out.mono hS'.out.size)) HV.out rfl
      · refine ⟨_, 83, (by rfl), (by rfl), (by simp), (by simp only [putAll, Act.put, List.setIfInBounds_toArray, List.set_cons_zero, List.set_cons_succ]; rfl), fun K hK => ?_⟩
        have h41 : Phig2 (.slice q1 a.length c1) X J 41 (f 41) v := hf 41 (c2_43 hC)
        simp only [Phig2] at h41
        clear hf hC
        simp only [h41, putAll, Act.put, List.setIfInBounds_toArray, List.set_cons_zero, List.set_cons_succ] at hK ⊢
        go_wp2_with fail
        (with_reducible refine (J2.out _ hS'.out).mono ?_)
        rintro e v2 ⟨rfl, hv⟩
        have HV := Lib.hid hv
        clear hv
        go_wp2_with fail
        exact hK _ _ (hS'.out.trans (HV.out.mono hS'.out.size)) HV.out rfl
      · refine ⟨_, 86, (by rfl), (by rfl), (by simp), (by simp only [putAll, Act.put, List.setIfInBounds_toArray, List.set_cons_zero, List.set_cons_succ]; rfl), fun K hK => ?_⟩
        clear hf hC
        simp only [putAll, Act.put, List.setIfInBounds_toArray, List.set_cons_zero, List.set_cons_succ] at hK ⊢
        go_wp2_with fail
        exact hK _ _ (hS'.out.alloc hS'.out.size _) ((Below.refl _ _).alloc (Nat.le_refl _) _) ⟨_, rfl, Has.made' _ _ _ _ rfl⟩
      · refine ⟨_, 87, (by rfl), (by rfl), (by simp), (by simp only [putAll, Act.put, List.setIfInBounds_toArray, List.set_cons_zero, List.set_cons_succ]; rfl), fun K hK => ?_⟩
        have hx : Phig2 (.slice q1 a.length c1) X J 46 (f 46) v := hf 46 (c2_47 hC)
        simp only [Phig2] at hx
        obtain ⟨g, h46, hg⟩ := hx
        clear hf hC
        simp only [h46, putAll, Act.put, List.setIfInBounds_toArray, List.set_cons_zero, List.set_cons_succ] at hK ⊢
        go_wp2_with fail
        (with_reducible refine (OA.out _ hS'.out _ hg).mono ?_)
        rintro e v2 ⟨rfl, hv⟩
        have HV := Lib.hid hv
        clear hv
        go_wp2_with fail
        exact hK _ _ (hS'.out.trans (HV.out.mono hS'.out.size)) HV.out rfl
      · refine ⟨_, 89, (by rfl), (by rfl), (by simp), (by simp only [putAll, Act.put, List.setIfInBounds_toArray, List.set_cons_zero, List.set_cons_succ]; rfl), fun K hK => ?_⟩
        have h47 : Phig2 (.slice q1 a.length c1) X J 47 (f 47) v := hf 47 (c2_49 hC)
        simp only [Phig2] at h47
        clear hf hC
        simp only [h47, putAll, Act.put, List.setIfInBounds_toArray, List.set_cons_zero, List.set_cons_succ] at hK ⊢
        go_wp2_with fail
        (with_reducible refine (RJ.out _ hS'.out).mono ?_)
        rintro e v2 ⟨rfl, hv⟩
        have HV := Lib.hid hv
        clear hv
        go_wp2_with fail
        exact hK _ _ (hS'.out.trans (HV.out.mono hS'.out.size)) HV.out rfl
    · intro f v10 hS hf
      have s10 := Lib.hid hS
      clear hS s9
      have h43 : Phig2 (.slice q1 a.length c1) X J 43 (f 43) v10 := hf 43 (by kernel_rfl)
      simp only [Phig2] at h43
      have h49 : Phig2 (.slice q1 a.length c1) X J 49 (f 49) v10 := hf 49 (by kernel_rfl)
      simp only [Phig2] at h49
      clear hf
      simp only [h43, h49, putAll, Act.put, List.setIfInBounds_toArray, List.set_cons_zero, List.set_cons_succ]
      clear h43 h49
      show wpAnyH _ _ _ _ _ (7 + 17) _ _ _
      refine wpAnyH_orsK _ [(50, true), (51, true), (52, true), (53, true), (54, true), (55, true), (56, true), (57, true), (58, true), (59, true), (60, true), (61, true), (62, true), (63, true), (64, true), (65, true), (68, true)] 7 (by kernel_rfl) (Eq.trans (congrArg (fun q : Array Oper => (orsNB .any q [(50, true), (51, true), (52, true), (53, true), (54, true), (55, true), (56, true), (57, true), (58, true), (59, true), (60, true), (61, true), (62, true), (63, true), (64, true), (65, true), (68, true)] (listN (listedAfter [(33, false), (35, true), (36, true), (37, true), (38, true), (39, true), (42, true), (44, true), (45, true), (48, true)] (listN (listedAfter [(0, true), (1, true), (4, true), (2, false), (3, false), (5, true), (6, true), (7, true), (10, true), (12, true), (8, false), (9, false), (11, false), (13, true), (14, true), (15, true), (16, true), (17, true), (19, true), (20, true), (18, false), (21, false), (22, true), (23, true), (24, true), (25, true), (28, true), (31, true), (32, true), (34, true)] (Array.replicate q.size false)) [26, 27, 29, 30])) [40, 41, 43, 46, 47, 49]) && ([(50, true), (51, true), (52, true), (53, true), (54, true), (55, true), (56, true), (57, true), (58, true), (59, true), (60, true), (61, true), (62, true), (63, true), (64, true), (65, true), (68, true)] : List (Nat × Bool)).all fun x => decide (x.1 < q.size))) (show _ = ops8 by kernel_rfl)) chk8_4) s10.out ?_ (fun _ _ _ h => h)
      simp only [pickOrs, List.getElem?_cons_zero, List.getElem?_cons_succ]
      refine orsK_pure (v := ?_) (by rfl) ?_ ?_
      rotate_left
      · intro w' hw; have t5 := T5.out w' hw; have t6 := T6.out w' hw; go_simp; try with_reducible rfl
      try simp only [Act.put, List.setIfInBounds_toArray, List.set_cons_zero, List.set_cons_succ]
      refine orsK_pure (v := ?_) (by rfl) ?_ ?_
      rotate_left
      · intro w' hw; have t5 := T5.out w' hw; have t6 := T6.out w' hw; go_simp; try with_reducible rfl
      try simp only [Act.put, List.setIfInBounds_toArray, List.set_cons_zero, List.set_cons_succ]
      refine orsK_pure (v := ?_) (by rfl) ?_ ?_
      rotate_left
      · intro w' hw; have t5 := T5.out w' hw; have t6 := T6.out w' hw; go_simp; try with_reducible rfl
      try simp only [Act.put, List.setIfInBounds_toArray, List.set_cons_zero, List.set_cons_succ]
      refine orsK_pure (v := ?_) (by rfl) ?_ ?_
      rotate_left
      · intro w' hw; have t5 := T5.out w' hw; have t6 := T6.out w' hw; go_simp; try with_reducible rfl
      try simp only [Act.put, List.setIfInBounds_toArray, List.set_cons_zero, List.set_cons_succ]
      refine orsK_pure (v := ?_) (by rfl) ?_ ?_
      rotate_left
      · intro w' hw; have t5 := T5.out w' hw; have t6 := T6.out w' hw; go_simp; try with_reducible rfl
      try simp only [Act.put, List.setIfInBounds_toArray, List.set_cons_zero, List.set_cons_succ]
      refine orsK_pure (v := ?_) (by rfl) ?_ ?_
      rotate_left
      · intro w' hw; have t5 := T5.out w' hw; have t6 := T6.out w' hw; go_simp; try with_reducible rfl
      try simp only [Act.put, List.setIfInBounds_toArray, List.set_cons_zero, List.set_cons_succ]
      refine orsK_pure (v := ?_) (by rfl) ?_ ?_
      rotate_left
      · intro w' hw; have t5 := T5.out w' hw; have t6 := T6.out w' hw; go_simp; try with_reducible rfl
      try simp only [Act.put, List.setIfInBounds_toArray, List.set_cons_zero, List.set_cons_succ]
      refine orsK_pure (v := ?_) (by rfl) ?_ ?_
      rotate_left
      · intro w' hw; have t5 := T5.out w' hw; have t6 := T6.out w' hw; go_simp; try with_reducible rfl
      try simp only [Act.put, List.setIfInBounds_toArray, List.set_cons_zero, List.set_cons_succ]
      refine orsK_pure (v := ?_) (by rfl) ?_ ?_
      rotate_left
      · intro w' hw; have t5 := T5.out w' hw; have t6 := T6.out w' hw; go_simp; try with_reducible rfl
      try simp only [Act.put, List.setIfInBounds_toArray, List.set_cons_zero, List.set_cons_succ]
      refine orsK_pure (v := ?_) (by rfl) ?_ ?_
      rotate_left
      · intro w' hw; have t5 := T5.out w' hw; have t6 := T6.out w' hw; go_simp; try with_reducible rfl
      try simp only [Act.put, List.setIfInBounds_toArray, List.set_cons_zero, List.set_cons_succ]
      refine orsK_pure (v := ?_) (by rfl) ?_ ?_
      rotate_left
      · intro w' hw; have t5 := T5.out w' hw; have t6 := T6.out w' hw; go_simp; try with_reducible rfl
      try simp only [Act.put, List.setIfInBounds_toArray, List.set_cons_zero, List.set_cons_succ]
      refine orsK_pure (v := ?_) (by rfl) ?_ ?_
      rotate_left
      · intro w' hw; have t5 := T5.out w' hw; have t6 := T6.out w' hw; go_simp; try with_reducible rfl
      try simp only [Act.put, List.setIfInBounds_toArray, List.set_cons_zero, List.set_cons_succ]
      refine orsK_pure (v := ?_) (by rfl) ?_ ?_
      rotate_left
      · intro w' hw; have t5 := T5.out w' hw; have t6 := T6.out w' hw; go_simp; try with_reducible rfl
      try simp only [Act.put, List.setIfInBounds_toArray, List.set_cons_zero, List.set_cons_succ]
      refine orsK_pure (v := ?_) (by rfl) ?_ ?_
      rotate_left
      · intro w' hw; have t5 := T5.out w' hw; have t6 := T6.out w' hw; go_simp; try with_reducible rfl
      try simp only [Act.put, List.setIfInBounds_toArray, List.set_cons_zero, List.set_cons_succ]
      refine orsK_pure (v := ?_) (by rfl) ?_ ?_
      rotate_left
      · intro w' hw; have t5 := T5.out w' hw; have t6 := T6.out w' hw; go_simp; try with_reducible rfl
      try simp only [Act.put, List.setIfInBounds_toArray, List.set_cons_zero, List.set_cons_succ]
      refine orsK_pure (v := ?_) (by rfl) ?_ ?_
      rotate_left
      · intro w' hw; have t5 := T5.out w' hw; have t6 := T6.out w' hw; go_simp; try with_reducible rfl
      try simp only [Act.put, List.setIfInBounds_toArray, List.set_cons_zero, List.set_cons_succ]
      refine orsK_pure (v := ?_) (by rfl) ?_ ?_
      rotate_left
      · intro w' hw; have t5 := T5.out w' hw; have t6 := T6.out w' hw; go_simp; try with_reducible rfl
      try simp only [Act.put, List.setIfInBounds_toArray, List.set_cons_zero, List.set_cons_succ]
      refine orsK_nil ?_
      show wpAnyH _ _ _ _ _ (3 + (3 + 1)) _ _ _
      refine wpAnyH_group [(106, 66), (107, 67), (109, 69), (110, 70)] Cg3 (Phig3 (sealL a)) (fun w w' => Below w.heap.size w w') _ 3 [[[66]], [[66, 67], [66, 69]], [[66, 67, 69], [66, 69, 70]]] [66, 67, 69, 70] (phig3_keep (sealL a)) (by kernel_rfl) (phig3_none (sealL a)) (by kernel_rfl) s10.out (Eq.trans (congrArg (fun q : Array Oper => levelsB .any q Cg3 ([(listedAfter [(50, true), (51, true), (52, true), (53, true), (54, true), (55, true), (56, true), (57, true), (58, true), (59, true), (60, true), (61, true), (62, true), (63, true), (64, true), (65, true), (68, true)] (listN (listedAfter [(33, false), (35, true), (36, true), (37, true), (38, true), (39, true), (42, true), (44, true), (45, true), (48, true)] (listN (listedAfter [(0, true), (1, true), (4, true), (2, false), (3, false), (5, true), (6, true), (7, true), (10, true), (12, true), (8, false), (9, false), (11, false), (13, true), (14, true), (15, true), (16, true), (17, true), (19, true), (20, true), (18, false), (21, false), (22, true), (23, true), (24, true), (25, true), (28, true), (31, true), (32, true), (34, true)] (Array.replicate q.size false)) [26, 27, 29, 30])) [40, 41, 43, 46, 47, 49]))] :: (([[[66]], [[66, 67], [66, 69]], [[66, 67, 69], [66, 69, 70]]] : List (List (List Nat))).map fun L => L.map (listN (listedAfter [(50, true), (51, true), (52, true), (53, true), (54, true), (55, true), (56, true), (57, true), (58, true), (59, true), (60, true), (61, true), (62, true), (63, true), (64, true), (65, true), (68, true)] (listN (listedAfter [(33, false), (35, true), (36, true), (37, true), (38, true), (39, true), (42, true), (44, true), (45, true), (48, true)] (listN (listedAfter [(0, true), (1, true), (4, true), (2, false), (3, false), (5, true), (6, true), (7, true), (10, true), (12, true), (8, false), (9, false), (11, false), (13, true), (14, true), (15, true), (16, true), (17, true), (19, true), (20, true), (18, false), (21, false), (22, true), (23, true), (24, true), (25, true), (28, true), (31, true), (32, true), (34, true)] (Array.replicate q.size false)) [26, 27, 29, 30])) [40, 41, 43, 46, 47, 49])))) ++ [[listN (listedAfter [(50, true), (51, true), (52, true), (53, true), (54, true), (55, true), (56, true), (57, true), (58, true), (59, true), (60, true), (61, true), (62, true), (63, true), (64, true), (65, true), (68, true)] (listN (listedAfter [(33, false), (35, true), (36, true), (37, true), (38, true), (39, true), (42, true), (44, true), (45, true), (48, true)] (listN (listedAfter [(0, true), (1, true), (4, true), (2, false), (3, false), (5, true), (6, true), (7, true), (10, true), (12, true), (8, false), (9, false), (11, false), (13, true), (14, true), (15, true), (16, true), (17, true), (19, true), (20, true), (18, false), (21, false), (22, true), (23, true), (24, true), (25, true), (28, true), (31, true), (32, true), (34, true)] (Array.replicate q.size false)) [26, 27, 29, 30])) [40, 41, 43, 46, 47, 49])) [66, 67, 69, 70]]])) (show _ = ops8 by kernel_rfl)) chk8_5) ?_ ?_
      · intro l f v j hC hS hf
        have hS' := Lib.hid hS
        clear hS s10
        rcases cg3_cases hC with rfl | rfl | rfl | rfl
        · refine ⟨_, 106, (by rfl), (by rfl), (by simp), (by simp only [putAll, Act.put, List.setIfInBounds_toArray, List.set_cons_zero, List.set_cons_succ]; rfl), fun K hK => ?_⟩
          clear hf hC
          simp only [putAll, Act.put, List.setIfInBounds_toArray, List.set_cons_zero, List.set_cons_succ] at hK ⊢
          go_wp2_with fail
          (with_reducible refine (SA.out _ hS'.out).mono ?_)
          rintro e v2 ⟨q7, c7, rfl, hs7, hv⟩
          have HV := Lib.hid hv
          have HS7 := Lib.hid hs7
          clear hv hs7
          go_wp2_with fail
          exact hK _ _ (hS'.out.trans (HV.out.mono hS'.out.size)) HV.out ⟨_, _, rfl, HS7.out⟩
        · refine ⟨_, 107, (by rfl), (by rfl), (by simp), (by simp only [putAll, Act.put, List.setIfInBounds_toArray, List.set_cons_zero, List.set_cons_succ]; rfl), fun K hK => ?_⟩
          have hx : Phig3 (sealL a) 66 (f 66) v := hf 66 (c3_67 hC)
          simp only [Phig3] at hx
          obtain ⟨q7, c7, h66, hs7⟩ := hx
          clear hf hC
          simp only [h66, putAll, Act.put, List.setIfInBounds_toArray, List.set_cons_zero, List.set_cons_succ] at hK ⊢
          have hcv := str_run _ _ c7 _ _ hs7
          go_wp2_with fail
          exact hK _ _ hS'.out (Below.refl _ _) rfl
        · refine ⟨_, 109, (by rfl), (by rfl), (by simp), (by simp only [putAll, Act.put, List.setIfInBounds_toArray, List.set_cons_zero, List.set_cons_succ]; rfl), fun K hK => ?_⟩
          clear hf hC
          simp only [putAll, Act.put, List.setIfInBounds_toArray, List.set_cons_zero, List.set_cons_succ] at hK ⊢
          go_wp2_with fail
          (with_reducible refine (RS.out _ hS'.out).mono ?_)
          rintro e v2 ⟨q7, c7, rfl, hs7, hv⟩
          have HV := Lib.hid hv
          have HS7 := Lib.hid hs7
          clear hv hs7
          go_wp2_with fail
          exact hK _ _ (hS'.out.trans (HV.out.mono hS'.out.size)) HV.out ⟨_, _, rfl, HS7.out⟩
        · refine ⟨_, 110, (by rfl), (by rfl), (by simp), (by simp only [putAll, Act.put, List.setIfInBounds_toArray, List.set_cons_zero, List.set_cons_succ]; rfl), fun K hK => ?_⟩
          have hx : Phig3 (sealL a) 69 (f 69) v := hf 69 (c3_70 hC)
          simp only [Phig3] at hx
          obtain ⟨q7, c7, h69, hs7⟩ := hx
          clear hf hC
          simp only [h69, putAll, Act.put, List.setIfInBounds_toArray, List.set_cons_zero, List.set_cons_succ] at hK ⊢
          have hcv := str_run _ _ c7 _ _ hs7
          go_wp2_with fail
          exact hK _ _ hS'.out (Below.refl _ _) rfl
      · intro f v11 hS hf
        have s11 := Lib.hid hS
        clear hS s10
        have h67 : Phig3 (sealL a) 67 (f 67) v11 := hf 67 (by kernel_rfl)
        simp only [Phig3] at h67
        have h70 : Phig3 (sealL a) 70 (f 70) v11 := hf 70 (by kernel_rfl)
        simp only [Phig3] at h70
        clear hf
        simp only [h67, h70, putAll, Act.put, List.setIfInBounds_toArray, List.set_cons_zero, List.set_cons_succ]
        clear h67 h70
        show wpAnyH _ _ _ _ _ (0 + 3) _ _ _
        refine wpAnyH_orsK _ [(71, true), (72, true), (73, true)] 0 (by kernel_rfl) (Eq.trans (congrArg (fun q : Array Oper => (orsNB .any q [(71, true), (72, true), (73, true)] (listN (listedAfter [(50, true), (51, true), (52, true), (53, true), (54, true), (55, true), (56, true), (57, true), (58, true), (59, true), (60, true), (61, true), (62, true), (63, true), (64, true), (65, true), (68, true)] (listN (listedAfter [(33, false), (35, true), (36, true), (37, true), (38, true), (39, true), (42, true), (44, true), (45, true), (48, true)] (listN (listedAfter [(0, true), (1, true), (4, true), (2, false), (3, false), (5, true), (6, true), (7, true), (10, true), (12, true), (8, false), (9, false), (11, false), (13, true), (14, true), (15, true), (16, true), (17, true), (19, true), (20, true), (18, false), (21, false), (22, true), (23, true), (24, true), (25, true), (28, true), (31, true), (32, true), (34, true)] (Array.replicate q.size false)) [26, 27, 29, 30])) [40, 41, 43, 46, 47, 49])) [66, 67, 69, 70]) && ([(71, true), (72, true), (73, true)] : List (Nat × Bool)).all fun x => decide (x.1 < q.size))) (show _ = ops8 by kernel_rfl)) chk8_6) s11.out ?_ (fun _ _ _ h => h)
        simp only [pickOrs, List.getElem?_cons_zero, List.getElem?_cons_succ]
        refine orsK_pure (v := ?_) (by rfl) ?_ ?_
        rotate_left
        · intro w' hw; have t5 := T5.out w' hw; have t6 := T6.out w' hw; go_simp; try with_reducible rfl
        try simp only [Act.put, List.setIfInBounds_toArray, List.set_cons_zero, List.set_cons_succ]
        refine orsK_pure (v := ?_) (by rfl) ?_ ?_
        rotate_left
        · intro w' hw; have t5 := T5.out w' hw; have t6 := T6.out w' hw; go_simp; try with_reducible rfl
        try simp only [Act.put, List.setIfInBounds_toArray, List.set_cons_zero, List.set_cons_succ]
        refine orsK_pure (v := ?_) (by rfl) ?_ ?_
        rotate_left
        · intro w' hw; have t5 := T5.out w' hw; have t6 := T6.out w' hw; go_simp; try with_reducible rfl
        try simp only [Act.put, List.setIfInBounds_toArray, List.set_cons_zero, List.set_cons_succ]
        refine orsK_nil ?_
        refine held_done (by kernel_rfl) ?_
        go_wp2_with fail
        go_ret
        exact ⟨rfl, B6.out.trans (s11.out.mono B6.out.size)⟩
end Go.Proofs.YtpfckamobjcdhabDoor
