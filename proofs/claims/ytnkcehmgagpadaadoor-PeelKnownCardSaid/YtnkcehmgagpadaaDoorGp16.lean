/- Peeling, plainly: which cell tells a sum, what is taken out step by step, what came out. No condition. -/
import Derived.Test.YtnkcehmgagpadaaDoorGp3
import Derived.Test.YtnkcehmgagpadaaDoorGp2
import Derived.Test.YtnkcehmgagpadaaDoorGp5
namespace Go.Proofs.YtnkcehmgagpadaaDoor
open Go.RowKit
/-- Can a sum be taken out of this cell, at this place? -/
def alone (s n : Nat) (c : Ce) (i : Nat) : Bool := isPure c && (places s n c.2.1).contains (i : Int)
def aloneL (s : Nat) (L : List Ce) : List Bool := L.mapIdx fun i c => alone s L.length c i
theorem aloneL_len (s : Nat) (L : List Ce) : (aloneL s L).length = L.length := by unfold aloneL; simp
theorem aloneL_get (s : Nat) (L : List Ce) (i : Nat) (h : i < L.length) : (aloneL s L)[i]'(by rw [aloneL_len]; exact h) = alone s L.length L[i] i := by unfold aloneL; simp
/-- The first that is true. -/
def fstT (l : List Bool) : Option Nat := l.findIdx? id
abbrev Pst := List Ce × List Su × List Su
def takeP (s : Nat) (q : Pst) (c : Ce) : Pst := if c.1 = 1 then (layT takeC s c.2.1 q.1, q.2.1 ++ [c.2.1], q.2.2) else (layT putC s c.2.1 q.1, q.2.1, q.2.2 ++ [c.2.1])
def stepP (s : Nat) (q : Pst) : Option Pst := match fstT (aloneL s q.1) with
  | none => none
  | some i => match q.1[i]? with
    | none => none
    | some c => some (takeP s q c)
def runP (s : Nat) : Nat → Pst → Pst
  | 0, q => q
  | k + 1, q => match stepP s q with
    | none => q
    | some r => runP s k r
def outP (q : Pst) : Nat := q.2.1.length + q.2.2.length
def dupP (q : Pst) : Bool := decide ((srt (q.2.1 ++ q.2.2)).length < (q.2.1 ++ q.2.2).length)
def okP (q : Pst) : Bool := zeroT q.1 && !dupP q
def peelP (s : Nat) (L : List Ce) : Pst := runP s 1025 (L, [], [])
theorem takeP_len (s : Nat) (q : Pst) (c : Ce) : (takeP s q c).1.length = q.1.length := by unfold takeP; split <;> exact layT_len _ _ _ _
theorem stepP_len {s : Nat} {q r : Pst} (h : stepP s q = some r) : r.1.length = q.1.length := by
  unfold stepP at h
  split at h
  · cases h
  · split at h
    · cases h
    · cases h; exact takeP_len _ _ _
theorem outP_take (s : Nat) (q : Pst) (c : Ce) : outP (takeP s q c) = outP q + 1 := by
  unfold takeP outP; split <;> simp <;> omega
theorem stepP_out {s : Nat} {q r : Pst} (h : stepP s q = some r) : outP r = outP q + 1 := by
  unfold stepP at h
  split at h
  · cases h
  · split at h
    · cases h
    · cases h; exact outP_take _ _ _
theorem runP_out (s : Nat) : ∀ (k : Nat) (q : Pst), outP (runP s k q) ≤ outP q + k
  | 0, _ => Nat.le_refl _
  | k + 1, q => by
    unfold runP
    split
    · omega
    · next r h => have := runP_out s k r; have := stepP_out h; omega
theorem runP_more {s : Nat} {q r : Pst} {k : Nat} (h : stepP s q = some r) : runP s (k + 1) q = runP s k r := by simp only [runP, h]
theorem runP_stop {s : Nat} {q : Pst} (k : Nat) (h : stepP s q = none) : runP s k q = q := by cases k with
  | zero => rfl
  | succ k => simp only [runP, h]
theorem okT_take {s : Nat} {x : Su} {L : List Ce} (h : okT L) : okT (layT takeC s x L) := by rw [layT_mods]; exact okT_mods (fun _ => okC_with _ _ _ _) _ _ h
theorem lay_back' {s : Nat} {x : Su} {L : List Ce} (h : okT L) : layT putC s x (layT takeC s x L) = L := by
  rw [layT_mods putC, layT_len, layT_mods takeC]
  exact mods_back (fun c => (put_take c x x).symm) _ _ (fun c hc => put_take' (h c hc) x)
theorem zip_lay {s : Nat} {y : Su} (X Y : List Ce) (h : X.length = Y.length) : List.zipWith minusC X (layT putC s y Y) = layT takeC s y (List.zipWith minusC X Y) := by
  have key : ∀ (ps : List Nat) (Y : List Ce), List.zipWith minusC X (mods ps (fun c => putC c y) Y) = mods ps (fun c => takeC c y) (List.zipWith minusC X Y) := by
    have one : ∀ (i : Nat) (X Y : List Ce), List.zipWith minusC X (Y.modify i fun c => putC c y) = (List.zipWith minusC X Y).modify i fun c => takeC c y := by
      intro i
      induction i with
      | zero => intro X Y; cases X <;> cases Y <;> simp [minus_put]
      | succ i ih => intro X Y; cases X <;> cases Y <;> simp [ih]
    intro ps
    induction ps with
    | nil => intro _; rfl
    | cons p ps ih => intro Y; show List.zipWith minusC X (mods ps _ (Y.modify p _)) = mods ps _ ((List.zipWith minusC X Y).modify p _); rw [ih, one]
  rw [layT_mods putC, layT_mods takeC, key, List.length_zipWith, h, Nat.min_self]
theorem zip_takeA {s : Nat} : ∀ (B : List Su) (X Y : List Ce), X.length = Y.length → List.zipWith minusC X (layA putC s B Y) = layA takeC s B (List.zipWith minusC X Y)
  | [], _, _, _ => rfl
  | y :: B, X, Y, h => by
    show List.zipWith minusC X (layA putC s B (layT putC s y Y)) = layA takeC s B (layT takeC s y (List.zipWith minusC X Y))
    rw [zip_takeA B X _ (by rw [layT_len]; exact h), zip_lay X Y h]
theorem zip_zero : ∀ {X : List Ce} {n : Nat}, okT X → X.length = n → List.zipWith minusC X (List.replicate n zC) = X
  | [], _, _, _ => by simp
  | c :: X, 0, _, h => by simp at h
  | c :: X, n + 1, hX, h => by
    rw [List.replicate_succ, List.zipWith_cons_cons, minusC_zero (hX c List.mem_cons_self), zip_zero (fun c hc => hX c (List.mem_cons_of_mem _ hc)) (by simpa using h)]
/-- A table less a set's is the table, the set's sums taken out. -/
theorem zip_tab {s : Nat} {X : List Ce} (hX : okT X) (B : List Su) : List.zipWith minusC X (layA putC s B (List.replicate X.length zC)) = layA takeC s B X := by
  rw [zip_takeA B X _ (by simp), zip_zero hX rfl]
end Go.Proofs.YtnkcehmgagpadaaDoor
/- Plain laws of peeling: what came out makes the table; nothing of nothing; one of one; how many. No condition. -/
namespace Go.Proofs.YtnkcehmgagpadaaDoor
open Go.RowKit
def tabP (s m : Nat) (A : List Su) : List Ce := layA putC s A (List.replicate m zC)
theorem tabP_len (s m : Nat) (A : List Su) : (tabP s m A).length = m := by unfold tabP; rw [layA_len, List.length_replicate]
theorem okT_tabP (s m : Nat) (A : List Su) : okT (tabP s m A) := okT_putA _ _ (okT_zero m)
/-- What Own tells. -/
def ownQ (s : Nat) (T : List Ce) (B : List Su) : Pst := peelP s (List.zipWith minusC T (tabP s T.length B))
def ownB (B : List Su) (q : Pst) : Bool := okP q && decide ((minU (srt q.2.2) B).length = 0) && decide ((botU (srt q.2.1) B).length = 0)
theorem out_le {s : Nat} {L : List Ce} : outP (peelP s L) ≤ 1025 := Nat.le_trans (runP_out s 1025 _) (by show 0 + 0 + 1025 ≤ 1025; omega)
theorem plus_le {s : Nat} {L : List Ce} : (peelP s L).2.1.length ≤ 1025 := by have := out_le (s := s) (L := L); unfold outP at this; omega
theorem minus_le {s : Nat} {L : List Ce} : (peelP s L).2.2.length ≤ 1025 := by have := out_le (s := s) (L := L); unfold outP at this; omega
theorem places3 {s : Nat} {n p : Nat} {x : Su} (hg : goodN n = true) (hn : n = 3 * p) : ∃ a b c : Nat, places s n x = [(a : Int), (b : Int), (c : Int)] ∧ a < p ∧ p ≤ b ∧ b < 2 * p ∧ 2 * p ≤ c ∧ c < n := by
  have e1 : places s (n : Int) x = (List.range 3).map (placeAt s n x) := if_pos hg
  have hp : 1 ≤ p := by obtain ⟨q, h1, h2, h3⟩ := good_part hg; omega
  have h5 : (n : Int) / 3 = p := by omega
  have at' : ∀ i : Nat, i < 3 → (i : Int) * p ≤ placeAt s n x i ∧ placeAt s n x i < (i : Int) * p + p := fun i _ => by
    have h6 := Int.emod_nonneg (M (wordOf (placeS s x).1 i)) (show (p : Int) ≠ 0 by omega)
    have h7 := Int.emod_lt_of_pos (M (wordOf (placeS s x).1 i)) (show (0 : Int) < p by omega)
    unfold placeAt; rw [h5]; omega
  have a0 := at' 0 (by omega)
  have a1 := at' 1 (by omega)
  have a2 := at' 2 (by omega)
  refine ⟨(placeAt s n x 0).toNat, (placeAt s n x 1).toNat, (placeAt s n x 2).toNat, ?_, ?_, ?_, ?_, ?_, ?_⟩
  · rw [e1]
    show [placeAt s n x 0, placeAt s n x 1, placeAt s n x 2] = _
    rw [Int.toNat_of_nonneg (by omega), Int.toNat_of_nonneg (by omega), Int.toNat_of_nonneg (by omega)]
  all_goals omega
theorem fstT_none {l : List Bool} (h : ∀ b ∈ l, b = false) : fstT l = none := by
  unfold fstT; rw [List.findIdx?_eq_none_iff]; intro x hx; exact h x hx
theorem fstT_some {l : List Bool} {i : Nat} (h : fstT l = some i) : ∃ hi : i < l.length, l[i] = true := by
  unfold fstT at h
  obtain ⟨h1, h2, _⟩ := List.findIdx?_eq_some_iff_getElem.1 h
  exact ⟨h1, h2⟩
theorem alone_zero (s m i : Nat) : alone s m zC i = false := by unfold alone isPure zC; simp
theorem aloneL_zero (s m : Nat) : ∀ b ∈ aloneL s (List.replicate m zC), b = false := fun b hb => by
  obtain ⟨i, hi, rfl⟩ := List.getElem_of_mem hb
  have hl : i < (List.replicate m zC).length := by rw [aloneL_len] at hi; exact hi
  rw [aloneL_get s _ i hl, List.getElem_replicate]; exact alone_zero _ _ _
theorem stepP_zero (s m : Nat) (P M : List Su) : stepP s (List.replicate m zC, P, M) = none := by
  unfold stepP
  rw [show fstT (aloneL s (List.replicate m zC, P, M).1) = none from fstT_none (aloneL_zero s m)]
/-- Nothing comes out of nothing. -/
theorem peel_zero (s m : Nat) : peelP s (List.replicate m zC) = (List.replicate m zC, [], []) := runP_stop 1025 (stepP_zero s m [] [])
theorem lay_get {f : Ce → Su → Ce} {s m p : Nat} {x : Su} (hg : goodN (m : Int) = true) (hm : m = 3 * p) (i : Nat) (hi : i < m) : (layT f s x (List.replicate m zC))[i]'(by rw [layT_len, List.length_replicate]; exact hi) = if (places s m x).contains (i : Int) then f zC x else zC := by
  obtain ⟨a, b, c, e, h1, h2, h3, h4, h5⟩ := places3 (s := s) (x := x) hg hm
  have e2 : layT f s x (List.replicate m zC) = (((List.replicate m zC).modify a fun c => f c x).modify b fun c => f c x).modify c fun c => f c x := by
    unfold layT; rw [List.length_replicate, e]; rfl
  have e3 : (places s m x).contains (i : Int) = (decide (a = i) || decide (b = i) || decide (c = i)) := by
    rw [e]
    by_cases ha : a = i <;> by_cases hb : b = i <;> by_cases hc : c = i <;> simp [ha, hb, hc] <;> omega
  simp only [e2, e3, List.getElem_modify, List.getElem_replicate]
  by_cases ha : a = i
  · have hb : b ≠ i := by omega
    have hc : c ≠ i := by omega
    simp [ha, hb, hc]
  · by_cases hb : b = i
    · have hc : c ≠ i := by omega
      simp [ha, hb, hc]
    · by_cases hc : c = i <;> simp [ha, hb, hc]
theorem pure_one {d : Int} (h : d = 1 ∨ d = -1) (x : Su) : isPure (d, x, chkS x) = true := by
  unfold isPure
  rcases h with rfl | rfl <;> simp
/-- One comes out of one. -/
theorem step_one {f : Ce → Su → Ce} {d : Int} (hd : d = 1 ∨ d = -1) {s m : Nat} {x : Su} (hf : f zC x = (d, x, chkS x)) (hg : goodN (m : Int) = true) (P M : List Su) : stepP s (layT f s x (List.replicate m zC), P, M) = some (takeP s (layT f s x (List.replicate m zC), P, M) (d, x, chkS x)) := by
  obtain ⟨p, _, _, hp⟩ := good_nat hg
  have hl : (layT f s x (List.replicate m zC)).length = m := by rw [layT_len, List.length_replicate]
  have get : ∀ i (hi : i < m), (aloneL s (layT f s x (List.replicate m zC)))[i]'(by rw [aloneL_len, hl]; exact hi) = (places s m x).contains (i : Int) := fun i hi => by
    rw [aloneL_get s _ i (by rw [hl]; exact hi), lay_get hg hp i hi, hl]
    cases hc : (places s m x).contains (i : Int) with
    | false => rw [if_neg (by simp)]; exact alone_zero _ _ _
    | true => rw [if_pos rfl, hf]; unfold alone; rw [pure_one hd]; exact hc
  obtain ⟨a, b, c, e, h1, h2, h3, h4, h5⟩ := places3 (s := s) (x := x) hg hp
  unfold stepP
  show (match fstT (aloneL s (layT f s x (List.replicate m zC))) with | none => none | some i => match (layT f s x (List.replicate m zC))[i]? with | none => none | some c => some (takeP s (layT f s x (List.replicate m zC), P, M) c)) = _
  cases hq : fstT (aloneL s (layT f s x (List.replicate m zC))) with
  | none =>
    unfold fstT at hq
    rw [List.findIdx?_eq_none_iff] at hq
    have h6 := hq _ (List.getElem_mem (show a < (aloneL s (layT f s x (List.replicate m zC))).length by rw [aloneL_len, hl]; omega))
    rw [get a (by omega), e] at h6
    simp at h6
  | some i =>
    obtain ⟨hi, h6⟩ := fstT_some hq
    have hi2 : i < m := by rw [aloneL_len, hl] at hi; exact hi
    rw [get i hi2] at h6
    have h7 := lay_get (f := f) (s := s) (x := x) hg hp i hi2
    rw [if_pos h6, hf] at h7
    show (match (layT f s x (List.replicate m zC))[i]? with | none => none | some c => some (takeP s (layT f s x (List.replicate m zC), P, M) c)) = _
    rw [List.getElem?_eq_getElem (show i < (layT f s x (List.replicate m zC)).length by rw [hl]; exact hi2), h7]
theorem peel_take {s m : Nat} {x : Su} (hg : goodN (m : Int) = true) : peelP s (layT takeC s x (List.replicate m zC)) = (List.replicate m zC, [], [x]) := by
  have h1 := step_one (f := takeC) (s := s) (d := -1) (.inr rfl) (takeC_zero x) hg [] []
  have h2 : takeP s (layT takeC s x (List.replicate m zC), [], []) (-1, x, chkS x) = (List.replicate m zC, [], [x]) := by
    unfold takeP
    rw [if_neg (show ¬((-1 : Int) = 1) by decide)]
    show (layT putC s x (layT takeC s x (List.replicate m zC)), [], [] ++ [x]) = _
    rw [lay_back' (okT_zero m)]; rfl
  rw [h2] at h1
  unfold peelP
  rw [runP_more h1]
  exact runP_stop 1024 (stepP_zero s m _ _)
/-- One's own table. -/
theorem own_self (s m : Nat) (A : List Su) : ownQ s (tabP s m A) A = (List.replicate m zC, [], []) := by
  unfold ownQ; rw [tabP_len, zip_self, tabP_len]; exact peel_zero s m
theorem own_diff {s m : Nat} {A B : List Su} (hA : AscU A) (hB : AscU B) : ownQ s (tabP s m A) B = peelP s (List.zipWith minusC (tabP s m (minU A B)) (tabP s m (minU B A))) := by
  unfold ownQ; rw [tabP_len]; unfold tabP; rw [apart_zip hA hB]
end Go.Proofs.YtnkcehmgagpadaaDoor
/- Plain laws of peeling two that are apart, and of what may not be peeled. No condition. -/
namespace Go.Proofs.YtnkcehmgagpadaaDoor
open Go.RowKit
theorem lay_at {f : Ce → Su → Ce} {s m p : Nat} {x : Su} {L : List Ce} (hl : L.length = m) (hg : goodN (m : Int) = true) (hm : m = 3 * p) (i : Nat) (hi : i < m) : (layT f s x L)[i]'(by rw [layT_len, hl]; exact hi) = if (places s m x).contains (i : Int) then f (L[i]'(by rw [hl]; exact hi)) x else L[i]'(by rw [hl]; exact hi) := by
  obtain ⟨a, b, c, e, h1, h2, h3, h4, h5⟩ := places3 (s := s) (x := x) hg hm
  have e2 : layT f s x L = ((L.modify a fun c => f c x).modify b fun c => f c x).modify c fun c => f c x := by
    unfold layT; rw [hl, e]; rfl
  have e3 : (places s m x).contains (i : Int) = (decide (a = i) || decide (b = i) || decide (c = i)) := by
    rw [e]
    by_cases ha : a = i <;> by_cases hb : b = i <;> by_cases hc : c = i <;> simp [ha, hb, hc] <;> omega
  simp only [e2, e3, List.getElem_modify]
  by_cases ha : a = i
  · have hb : b ≠ i := by omega
    have hc : c ≠ i := by omega
    simp [ha, hb, hc]
  · by_cases hb : b = i
    · have hc : c ≠ i := by omega
      simp [ha, hb, hc]
    · by_cases hc : c = i <;> simp [ha, hb, hc]
theorem pure_cnt0 {c : Ce} (h1 : c.1 ≠ 1) (h2 : c.1 ≠ -1) : isPure c = false := by
  unfold isPure; rw [decide_eq_false h1, decide_eq_false h2]; rfl
/-- Two that are not in just the same cells come out. -/
theorem peel_two {s m : Nat} {x y : Su} (hg : goodN (m : Int) = true) (hne : ∃ i, i < m ∧ (places s m x).contains (i : Int) ≠ (places s m y).contains (i : Int)) : peelP s (layT takeC s y (layT putC s x (List.replicate m zC))) = (List.replicate m zC, [x], [y]) := by
  obtain ⟨p, _, _, hp⟩ := good_nat hg
  have hz : (List.replicate m zC).length = m := List.length_replicate
  have hx : (layT putC s x (List.replicate m zC)).length = m := by rw [layT_len, hz]
  have hl : (layT takeC s y (layT putC s x (List.replicate m zC))).length = m := by rw [layT_len, hx]
  have cell : ∀ i (hi : i < m), (layT takeC s y (layT putC s x (List.replicate m zC)))[i]'(by rw [hl]; exact hi) = if (places s m y).contains (i : Int) then takeC (if (places s m x).contains (i : Int) then putC zC x else zC) y else (if (places s m x).contains (i : Int) then putC zC x else zC) := fun i hi => by
    rw [lay_at hx hg hp i hi, lay_at hz hg hp i hi, List.getElem_replicate]
  have get : ∀ i (hi : i < m), (aloneL s (layT takeC s y (layT putC s x (List.replicate m zC))))[i]'(by rw [aloneL_len, hl]; exact hi) = ((places s m x).contains (i : Int) != (places s m y).contains (i : Int)) := fun i hi => by
    rw [aloneL_get s _ i (by rw [hl]; exact hi), cell i hi, hl]
    cases hcx : (places s m x).contains (i : Int) <;> cases hcy : (places s m y).contains (i : Int)
    · exact alone_zero _ _ _
    · show alone s m (takeC zC y) i = true
      rw [takeC_zero]; unfold alone; rw [pure_one (.inr rfl)]; exact hcy
    · show alone s m (putC zC x) i = true
      rw [putC_zero]; unfold alone; rw [pure_one (.inl rfl)]; exact hcx
    · show alone s m (takeC (putC zC x) y) i = false
      have h0 : (takeC (putC zC x) y).1 = 0 := by show IntKind.i64.wrap (IntKind.i64.wrap (0 + 1) + (-1)) = 0; decide
      unfold alone
      rw [pure_cnt0 (by rw [h0]; decide) (by rw [h0]; decide)]; rfl
  cases hq : fstT (aloneL s (layT takeC s y (layT putC s x (List.replicate m zC)))) with
  | none =>
    obtain ⟨i, hi, hn⟩ := hne
    unfold fstT at hq
    rw [List.findIdx?_eq_none_iff] at hq
    have h6 := hq _ (List.getElem_mem (show i < (aloneL s (layT takeC s y (layT putC s x (List.replicate m zC)))).length by rw [aloneL_len, hl]; exact hi))
    rw [get i hi] at h6
    exact absurd (by simpa using h6) hn
  | some i =>
    obtain ⟨hi, h6⟩ := fstT_some hq
    have hi2 : i < m := by rw [aloneL_len, hl] at hi; exact hi
    rw [get i hi2] at h6
    have hil : i < (layT takeC s y (layT putC s x (List.replicate m zC))).length := by rw [hl]; exact hi2
    have hst : stepP s (layT takeC s y (layT putC s x (List.replicate m zC)), [], []) = some (takeP s (layT takeC s y (layT putC s x (List.replicate m zC)), [], []) (layT takeC s y (layT putC s x (List.replicate m zC)))[i]) := by
      unfold stepP
      rw [show fstT (aloneL s (layT takeC s y (layT putC s x (List.replicate m zC)), ([] : List Su), ([] : List Su)).1) = some i from hq]
      simp only [List.getElem?_eq_getElem hil]
    have hc := cell i hi2
    cases hcx : (places s m x).contains (i : Int) <;> cases hcy : (places s m y).contains (i : Int) <;> rw [hcx, hcy] at h6 hc
    · cases h6
    · have hc2 : (layT takeC s y (layT putC s x (List.replicate m zC)))[i] = (-1, y, chkS y) := by rw [hc]; exact takeC_zero y
      have h2 : takeP s (layT takeC s y (layT putC s x (List.replicate m zC)), [], []) (-1, y, chkS y) = (layT putC s x (List.replicate m zC), [], [y]) := by
        unfold takeP
        rw [if_neg (show ¬((-1 : Int) = 1) by decide)]
        show (layT putC s y (layT takeC s y (layT putC s x (List.replicate m zC))), [], [] ++ [y]) = _
        rw [lay_back' (okT_put (okT_zero m))]; rfl
      rw [hc2, h2] at hst
      have h3 := step_one (f := putC) (s := s) (d := 1) (.inl rfl) (putC_zero x) hg [] [y]
      have h4 : takeP s (layT putC s x (List.replicate m zC), [], [y]) (1, x, chkS x) = (List.replicate m zC, [x], [y]) := by
        unfold takeP
        rw [if_pos rfl]
        show (layT takeC s x (layT putC s x (List.replicate m zC)), [] ++ [x], [y]) = _
        rw [lay_back (okT_zero m)]; rfl
      rw [h4] at h3
      unfold peelP
      rw [runP_more hst, runP_more h3]
      exact runP_stop 1023 (stepP_zero s m _ _)
    · have hc2 : (layT takeC s y (layT putC s x (List.replicate m zC)))[i] = (1, x, chkS x) := by rw [hc]; exact putC_zero x
      have h2 : takeP s (layT takeC s y (layT putC s x (List.replicate m zC)), [], []) (1, x, chkS x) = (layT takeC s y (List.replicate m zC), [x], []) := by
        unfold takeP
        rw [if_pos rfl]
        show (layT takeC s x (layT takeC s y (layT putC s x (List.replicate m zC))), [] ++ [x], []) = _
        rw [lay_comm (f := takeC) (g := takeC) (fun c => takeC_right c y x), lay_back (okT_zero m)]; rfl
      rw [hc2, h2] at hst
      have h3 := step_one (f := takeC) (s := s) (d := -1) (.inr rfl) (takeC_zero y) hg [x] []
      have h4 : takeP s (layT takeC s y (List.replicate m zC), [x], []) (-1, y, chkS y) = (List.replicate m zC, [x], [y]) := by
        unfold takeP
        rw [if_neg (show ¬((-1 : Int) = 1) by decide)]
        show (layT putC s y (layT takeC s y (List.replicate m zC)), [x], [] ++ [y]) = _
        rw [lay_back' (okT_zero m)]; rfl
      rw [h4] at h3
      unfold peelP
      rw [runP_more hst, runP_more h3]
      exact runP_stop 1023 (stepP_zero s m _ _)
    · cases h6
theorem own_two {s m : Nat} {A B : List Su} {x y : Su} (hg : goodN (m : Int) = true) (hA : AscU A) (hB : AscU B) (h1 : minU A B = [x]) (h2 : minU B A = [y]) (hne : ∃ i, i < m ∧ (places s m x).contains (i : Int) ≠ (places s m y).contains (i : Int)) : ownQ s (tabP s m A) B = (List.replicate m zC, [x], [y]) := by
  rw [own_diff hA hB, h1, h2]
  have e := zip_tab (s := s) (okT_tabP s m [x]) [y]
  rw [tabP_len] at e
  unfold tabP at e ⊢
  rw [e]
  exact peel_two hg hne
/-- What is told, where it is known. -/
theorem okP_of {m : Nat} (hg : goodN (m : Int) = true) (P M : List Su) (hn : (P ++ M).Nodup) : okP (List.replicate m zC, P, M) = true := by
  unfold okP dupP
  rw [show zeroT (List.replicate m zC, P, M).1 = true from zero_repl hg]
  show (true && !decide ((srt (P ++ M)).length < (P ++ M).length)) = true
  rw [len_srt hn]; simp
theorem ownB_of {m : Nat} (hg : goodN (m : Int) = true) {B P M : List Su} (hn : (P ++ M).Nodup) (hM : ∀ z, z ∈ M → z ∈ B) (hP : ∀ z, z ∈ P → z ∉ B) : ownB B (List.replicate m zC, P, M) = true := by
  have h1 : minU (srt M) B = [] := ascU_unique (asc_minU _ _) List.Pairwise.nil fun z => by
    rw [mem_minU, mem_srt]
    constructor
    · rintro ⟨a, b⟩; exact absurd (hM z a) b
    · intro h; cases h
  have h2 : botU (srt P) B = [] := ascU_unique (asc_botU _ _) List.Pairwise.nil fun z => by
    rw [mem_botU, mem_srt]
    constructor
    · rintro ⟨a, b⟩; exact absurd b (hP z a)
    · intro h; cases h
  unfold ownB
  rw [okP_of hg P M hn]
  show (true && decide ((minU (srt M) B).length = 0) && decide ((botU (srt P) B).length = 0)) = true
  rw [h1, h2]; rfl
theorem okP_stuck {s : Nat} {L : List Ce} (h : ∀ b ∈ aloneL s L, b = false) : peelP s L = (L, [], []) := by
  unfold peelP
  refine runP_stop 1025 ?_
  unfold stepP
  rw [show fstT (aloneL s (L, ([] : List Su), ([] : List Su)).1) = none from fstT_none h]
theorem ownB_zero {B : List Su} {q : Pst} (h : okP q = false) : ownB B q = false := by unfold ownB; rw [h]; rfl
end Go.Proofs.YtnkcehmgagpadaaDoor
/- Closed facts: a few sums are not alike, nor their places. No condition. -/
namespace Go.Proofs.YtnkcehmgagpadaaDoor
open Go.RowKit
theorem few_12 : decide (fewS 1 = fewS 2) = false := by kernel_rfl
theorem few_13 : decide (fewS 1 = fewS 3) = false := by kernel_rfl
theorem few_23 : decide (fewS 2 = fewS 3) = false := by kernel_rfl
theorem few_34 : decide (fewS 3 = fewS 4) = false := by kernel_rfl
theorem few_at : ((List.range 30).any fun i => (places 5 30 (fewS 1)).contains (i : Int) != (places 5 30 (fewS 3)).contains (i : Int)) = true := by kernel_rfl
end Go.Proofs.YtnkcehmgagpadaaDoor
