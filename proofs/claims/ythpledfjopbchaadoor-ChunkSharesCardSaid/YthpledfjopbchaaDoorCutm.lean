/- Plain laws: where a text is cut: the next end, all ends, the pieces. No condition but that a rule may be. -/
import Derived.Test.YthpledfjopbchaaDoorAddw
namespace Go.Proofs.YthpledfjopbchaaDoor
/-- A rule, in whole numbers. -/
structure Rl where
  mn : Nat
  mx : Nat
  wd : Nat
  mask : Nat
  want : Nat
structure Rl.Ok (r : Rl) : Prop where
  w1 : 1 ≤ r.wd
  w2 : r.wd ≤ 64
  w3 : r.wd ≤ r.mn
  w4 : r.mn ≤ r.mx
  w5 : r.mx ≤ 65536
  w6 : r.mask < 18446744073709551616
  w7 : r.want < 18446744073709551616
def hit (r : Rl) (b : List (BitVec 8)) (n : Nat) : Bool := (rsum (lastN r.wd (b.take n)) &&& r.mask) == r.want
def scan (p : Nat → Bool) (top : Nat) : Nat → Nat → Nat
  | 0, _ => top
  | k + 1, n => if p n then n else scan p top k (n + 1)
def nx (r : Rl) (b : List (BitVec 8)) : Nat := scan (hit r b) (min r.mx b.length) (min r.mx b.length + 1 - r.mn) r.mn
theorem scan_hit (p : Nat → Bool) (top n : Nat) (h : n ≤ top) (hp : p n = true) : scan p top (top + 1 - n) n = n := by
  rw [show top + 1 - n = top - n + 1 by omega, scan, if_pos hp]
theorem scan_miss (p : Nat → Bool) (top n : Nat) (h : n ≤ top) (hp : p n = false) : scan p top (top + 1 - n) n = scan p top (top + 1 - (n + 1)) (n + 1) := by
  rw [show top + 1 - n = top + 1 - (n + 1) + 1 by omega, scan, if_neg (by rw [hp]; simp)]
theorem scan_end (p : Nat → Bool) (top n : Nat) (h : top < n) : scan p top (top + 1 - n) n = top := by
  rw [show top + 1 - n = 0 by omega, scan]
theorem scan_spec (p : Nat → Bool) (top : Nat) : ∀ k n, k = top + 1 - n →
    (n ≤ scan p top k n ∧ scan p top k n ≤ top ∧ p (scan p top k n) = true ∧ ∀ i, n ≤ i → i < scan p top k n → p i = false) ∨ (scan p top k n = top ∧ ∀ i, n ≤ i → i ≤ top → p i = false)
  | 0, n, h => .inr ⟨rfl, fun i h1 h2 => by omega⟩
  | k + 1, n, h => by
    rw [scan]
    by_cases hp : p n = true
    · rw [if_pos hp]
      exact .inl ⟨Nat.le_refl _, by omega, hp, fun i h1 h2 => by omega⟩
    · rw [if_neg hp]
      have hp' : p n = false := by simpa using hp
      rcases scan_spec p top k (n + 1) (by omega) with ⟨h1, h2, h3, h4⟩ | ⟨h1, h2⟩
      · refine .inl ⟨by omega, h2, h3, fun i hi hj => ?_⟩
        by_cases he : i = n
        · rw [he]; exact hp'
        · exact h4 i (by omega) hj
      · refine .inr ⟨h1, fun i hi hj => ?_⟩
        by_cases he : i = n
        · rw [he]; exact hp'
        · exact h2 i (by omega) hj
theorem nx_spec (r : Rl) (b : List (BitVec 8)) : (r.mn ≤ nx r b ∧ nx r b ≤ min r.mx b.length ∧ hit r b (nx r b) = true ∧ ∀ i, r.mn ≤ i → i < nx r b → hit r b i = false) ∨
    (nx r b = min r.mx b.length ∧ ∀ i, r.mn ≤ i → i ≤ min r.mx b.length → hit r b i = false) := scan_spec (hit r b) (min r.mx b.length) _ r.mn rfl
theorem nx_le (r : Rl) (b : List (BitVec 8)) : nx r b ≤ b.length ∧ nx r b ≤ r.mx := by
  rcases nx_spec r b with ⟨h1, h2, _⟩ | ⟨h1, _⟩ <;> omega
theorem nx_pos {r : Rl} (h : r.Ok) {b : List (BitVec 8)} (hb : b.length ≠ 0) : 1 ≤ nx r b := by
  have := h.w1; have := h.w3; have := h.w4
  rcases nx_spec r b with ⟨h1, h2, _⟩ | ⟨h1, _⟩ <;> omega
theorem nx_min {r : Rl} (h : r.Ok) {b : List (BitVec 8)} (hb : nx r b < b.length) : r.mn ≤ nx r b := by
  have := h.w1; have := h.w3; have := h.w4
  rcases nx_spec r b with ⟨h1, h2, _⟩ | ⟨h1, _⟩ <;> omega
theorem hit_more (r : Rl) (b c : List (BitVec 8)) (n : Nat) (h : n ≤ b.length) : hit r (b ++ c) n = hit r b n := by
  unfold hit; rw [List.take_append_of_le_length h]
theorem nx_local {r : Rl} (h : r.Ok) (b c : List (BitVec 8)) : nx r b = nx r (b ++ c) ∨ (nx r b = b.length ∧ nx r b ≤ nx r (b ++ c)) := by
  have hl : (b ++ c).length = b.length + c.length := List.length_append
  have hm : ∀ n, n ≤ b.length → hit r (b ++ c) n = hit r b n := hit_more r b c
  have := h.w4
  rcases nx_spec r b with ⟨h1, h2, h3, h4⟩ | ⟨h1, h2⟩ <;> rcases nx_spec r (b ++ c) with ⟨k1, k2, k3, k4⟩ | ⟨k1, k2⟩
  · left
    rcases Nat.lt_trichotomy (nx r b) (nx r (b ++ c)) with hlt | he | hgt
    · have := k4 _ h1 hlt; rw [hm _ (by omega), h3] at this; simp at this
    · exact he
    · have := h4 _ k1 hgt; rw [← hm _ (by omega), k3] at this; simp at this
  · have := k2 _ h1 (by omega); rw [hm _ (by omega), h3] at this; simp at this
  · rcases Nat.lt_or_ge (nx r b) (nx r (b ++ c)) with hlt | hge
    · right; exact ⟨by omega, by omega⟩
    · have := h2 _ k1 (by omega); rw [← hm _ (by omega), k3] at this; simp at this
  · rcases Nat.lt_or_ge r.mx b.length with hlt | hge
    · left; omega
    · right; exact ⟨by omega, by omega⟩
/-- Where pieces end, o bytes ahead. -/
def endsF (r : Rl) : Nat → Nat → List (BitVec 8) → List Nat
  | 0, _, _ => []
  | f + 1, o, b => if b.length = 0 then [] else (o + nx r b) :: endsF r f (o + nx r b) (b.drop (nx r b))
def endsL (r : Rl) (o : Nat) (b : List (BitVec 8)) : List Nat := endsF r b.length o b
theorem endsF_fuel {r : Rl} (h : r.Ok) : ∀ (f g o : Nat) (b : List (BitVec 8)), b.length ≤ f → b.length ≤ g → endsF r f o b = endsF r g o b
  | 0, 0, _, _, _, _ => rfl
  | 0, g + 1, o, b, h1, _ => by
    have h0 : b.length = 0 := by omega
    simp only [endsF]; rw [if_pos h0]
  | f + 1, 0, o, b, _, h2 => by
    have h0 : b.length = 0 := by omega
    simp only [endsF]; rw [if_pos h0]
  | f + 1, g + 1, o, b, h1, h2 => by
    simp only [endsF]
    by_cases h0 : b.length = 0
    · rw [if_pos h0, if_pos h0]
    · rw [if_neg h0, if_neg h0]
      have := nx_pos h h0
      rw [endsF_fuel h f g _ _ (by rw [List.length_drop]; omega) (by rw [List.length_drop]; omega)]
theorem endsL_nil (r : Rl) (o : Nat) (b : List (BitVec 8)) (h : b.length = 0) : endsL r o b = [] := by
  unfold endsL; rw [h]; rfl
theorem endsL_cons {r : Rl} (h : r.Ok) (o : Nat) (b : List (BitVec 8)) (hb : b.length ≠ 0) : endsL r o b = (o + nx r b) :: endsL r (o + nx r b) (b.drop (nx r b)) := by
  have hp := nx_pos h hb
  unfold endsL
  rw [show b.length = b.length - 1 + 1 by omega, endsF, if_neg hb, endsF_fuel h (b.length - 1) _ _ _ (by rw [List.length_drop]; omega) (Nat.le_refl _)]
theorem endsL_shift {r : Rl} (h : r.Ok) (t : Nat) : ∀ (n o : Nat) (b : List (BitVec 8)), b.length ≤ n → endsL r (o + t) b = (endsL r o b).map (· + t)
  | 0, o, b, hn => by rw [endsL_nil r _ b (by omega), endsL_nil r _ b (by omega)]; rfl
  | n + 1, o, b, hn => by
    by_cases h0 : b.length = 0
    · rw [endsL_nil r _ b h0, endsL_nil r _ b h0]; rfl
    · have := nx_pos h h0
      rw [endsL_cons h _ b h0, endsL_cons h _ b h0, List.map_cons, ← endsL_shift h t n _ _ (by rw [List.length_drop]; omega)]
      have e : o + t + nx r b = o + nx r b + t := by omega
      rw [e]
/-- From an end on. -/
theorem endsL_drop {r : Rl} (h : r.Ok) : ∀ (n o : Nat) (b : List (BitVec 8)), b.length ≤ n → ∀ i (hi : i < (endsL r o b).length),
    (endsL r o b).drop (i + 1) = endsL r (endsL r o b)[i] (b.drop ((endsL r o b)[i] - o)) ∧ o < (endsL r o b)[i] ∧ (endsL r o b)[i] ≤ o + b.length
  | 0, o, b, hn, i, hi => by rw [endsL_nil r o b (by omega)] at hi; simp at hi
  | n + 1, o, b, hn, i, hi => by
    by_cases h0 : b.length = 0
    · rw [endsL_nil r o b h0] at hi; simp at hi
    · have hp := nx_pos h h0
      have hq := (nx_le r b).1
      have e := endsL_cons h o b h0
      rcases i with _ | i
      · have e0 : (endsL r o b)[0] = o + nx r b := by simp [e]
        rw [e0, e]
        refine ⟨?_, by omega, by omega⟩
        rw [List.drop_succ_cons, List.drop_zero, Nat.add_sub_cancel_left]
      · have hi' : i < (endsL r (o + nx r b) (b.drop (nx r b))).length := by rw [e] at hi; simpa using hi
        obtain ⟨k1, k2, k3⟩ := endsL_drop h n (o + nx r b) (b.drop (nx r b)) (by rw [List.length_drop]; omega) i hi'
        have e1 : (endsL r o b)[i + 1] = (endsL r (o + nx r b) (b.drop (nx r b)))[i] := by simp [e]
        rw [List.length_drop] at k3
        rw [e1]
        refine ⟨?_, by omega, by omega⟩
        rw [show (endsL r o b).drop (i + 1 + 1) = (endsL r (o + nx r b) (b.drop (nx r b))).drop (i + 1) by rw [e, List.drop_succ_cons], k1, List.drop_drop]
        congr 2
        omega
/-- The end ahead of the i-th. -/
def before (L : List Nat) (i : Nat) : Nat := if i = 0 then 0 else L.getD (i - 1) 0
theorem before_zero (L : List Nat) : before L 0 = 0 := rfl
theorem before_succ (L : List Nat) (i : Nat) (h : i < L.length) : before L (i + 1) = L[i] := by
  unfold before; rw [if_neg (by omega), Nat.add_sub_cancel, List.getD_eq_getElem?_getD, List.getElem?_eq_getElem h]; rfl
theorem endsL_from {r : Rl} (h : r.Ok) (b : List (BitVec 8)) (i : Nat) (hi : i ≤ (endsL r 0 b).length) :
    (endsL r 0 b).drop i = endsL r (before (endsL r 0 b) i) (b.drop (before (endsL r 0 b) i)) ∧ before (endsL r 0 b) i ≤ b.length := by
  rcases i with _ | i
  · exact ⟨by rw [before_zero, List.drop_zero, List.drop_zero], by rw [before_zero]; omega⟩
  · obtain ⟨k1, k2, k3⟩ := endsL_drop h _ 0 b (Nat.le_refl _) i hi
    rw [before_succ _ i hi]
    exact ⟨by rw [k1, Nat.sub_zero], by omega⟩
/-- An end and the one ahead of it. -/
theorem endsL_step {r : Rl} (h : r.Ok) (b : List (BitVec 8)) (i : Nat) (hi : i < (endsL r 0 b).length) :
    (endsL r 0 b)[i] = before (endsL r 0 b) i + nx r (b.drop (before (endsL r 0 b) i)) ∧ before (endsL r 0 b) i < b.length := by
  obtain ⟨k1, k2⟩ := endsL_from h b i (by omega)
  have hne : (b.drop (before (endsL r 0 b) i)).length ≠ 0 := by
    intro h0
    rw [endsL_nil r _ _ h0] at k1
    have := congrArg List.length k1
    rw [List.length_drop] at this
    simp at this
    omega
  rw [endsL_cons h _ _ hne, List.drop_eq_getElem_cons hi] at k1
  refine ⟨(List.cons.inj k1).1, ?_⟩
  rw [List.length_drop] at hne
  omega
theorem endsL_lt {r : Rl} (h : r.Ok) (b : List (BitVec 8)) (i : Nat) (hi : i < (endsL r 0 b).length) :
    before (endsL r 0 b) i < (endsL r 0 b)[i] ∧ (endsL r 0 b)[i] ≤ b.length ∧ (endsL r 0 b)[i] ≤ before (endsL r 0 b) i + r.mx ∧ (i + 1 < (endsL r 0 b).length → before (endsL r 0 b) i + r.mn ≤ (endsL r 0 b)[i]) := by
  obtain ⟨k1, k2⟩ := endsL_step h b i hi
  have hne : (b.drop (before (endsL r 0 b) i)).length ≠ 0 := by rw [List.length_drop]; omega
  have h1 := nx_pos h hne
  have h2 := nx_le r (b.drop (before (endsL r 0 b) i))
  have h3 := nx_min h (b := b.drop (before (endsL r 0 b) i))
  rw [List.length_drop] at h2 h3
  refine ⟨by omega, by omega, by omega, fun hl => ?_⟩
  obtain ⟨j1, j2⟩ := endsL_step h b (i + 1) hl
  rw [before_succ _ i hi] at j2
  have := h3 (by omega)
  omega
theorem endsL_empty {r : Rl} (h : r.Ok) (b : List (BitVec 8)) : ((endsL r 0 b).length = 0) ↔ (b.length = 0) := by
  constructor
  · intro h0
    by_cases hb : b.length = 0
    · exact hb
    · rw [endsL_cons h 0 b hb] at h0; simp at h0
  · intro h0; rw [endsL_nil r 0 b h0]; rfl
theorem endsL_last {r : Rl} (h : r.Ok) (b : List (BitVec 8)) : before (endsL r 0 b) (endsL r 0 b).length = b.length := by
  obtain ⟨k1, k2⟩ := endsL_from h b (endsL r 0 b).length (Nat.le_refl _)
  rw [List.drop_length] at k1
  by_cases h0 : (b.drop (before (endsL r 0 b) (endsL r 0 b).length)).length = 0
  · rw [List.length_drop] at h0; omega
  · rw [endsL_cons h _ _ h0] at k1; simp at k1
theorem endsL_most {r : Rl} (h : r.Ok) (b : List (BitVec 8)) : ∀ i, i ≤ (endsL r 0 b).length → before (endsL r 0 b) i ≤ i * r.mx
  | 0, _ => by rw [before_zero]; omega
  | i + 1, hi => by
    have h1 := endsL_most h b i (by omega)
    obtain ⟨_, _, h2, _⟩ := endsL_lt h b i hi
    rw [before_succ _ i hi, Nat.add_mul]
    omega
theorem endsL_least {r : Rl} (h : r.Ok) (b : List (BitVec 8)) : ∀ i, i < (endsL r 0 b).length → i * r.mn ≤ before (endsL r 0 b) i
  | 0, _ => by omega
  | i + 1, hi => by
    have h1 := endsL_least h b i (by omega)
    obtain ⟨_, _, _, h2⟩ := endsL_lt h b i (by omega)
    have := h2 hi
    rw [before_succ _ i (by omega), Nat.add_mul]
    omega
/-- The i-th piece. -/
def piece (b : List (BitVec 8)) (L : List Nat) (i : Nat) : List (BitVec 8) := (b.take (L.getD i 0)).drop (before L i)
theorem getD_at (L : List Nat) (i : Nat) (h : i < L.length) : L.getD i 0 = L[i] := by
  rw [List.getD_eq_getElem?_getD, List.getElem?_eq_getElem h]; rfl
theorem lastN_drop (d k : Nat) (l : List (BitVec 8)) (h : k + d ≤ l.length) : lastN d (l.drop k) = lastN d l := by
  unfold lastN; rw [List.length_drop, List.drop_drop]; congr 1; omega
theorem hit_take (r : Rl) (b : List (BitVec 8)) (n x : Nat) (h : n ≤ x) : hit r (b.take x) n = hit r b n := by
  unfold hit; rw [List.take_take, Nat.min_eq_left h]
theorem ends_tail {r : Rl} (h : r.Ok) (a c : List (BitVec 8)) (i : Nat) (hi : i < (endsL r 0 (a ++ c)).length) (ha : a.length ≤ (endsL r 0 (a ++ c))[i]) :
    (endsL r 0 (a ++ c)).drop (i + 1) = (endsL r ((endsL r 0 (a ++ c))[i] - a.length) (c.drop ((endsL r 0 (a ++ c))[i] - a.length))).map (· + a.length) := by
  obtain ⟨k1, k2, k3⟩ := endsL_drop h _ 0 (a ++ c) (Nat.le_refl _) i hi
  rw [k1, ← endsL_shift h a.length _ _ _ (Nat.le_refl _), Nat.sub_zero, List.drop_append, List.drop_eq_nil_of_le ha, List.nil_append]
  congr 1
  omega
/-- Two texts that end alike, from an end of both on. -/
theorem ends_again {r : Rl} (h : r.Ok) (a b c : List (BitVec 8)) (i k : Nat) (hi : i < (endsL r 0 (a ++ c)).length) (hk : k < (endsL r 0 (b ++ c)).length)
    (h1 : a.length ≤ (endsL r 0 (a ++ c))[i]) (h2 : b.length ≤ (endsL r 0 (b ++ c))[k]) (h3 : (endsL r 0 (a ++ c))[i] - a.length = (endsL r 0 (b ++ c))[k] - b.length) :
    (endsL r 0 (a ++ c)).length - i = (endsL r 0 (b ++ c)).length - k ∧
    ∀ n, i + n < (endsL r 0 (a ++ c)).length → ((endsL r 0 (a ++ c)).getD (i + n) 0 : Int) - a.length = ((endsL r 0 (b ++ c)).getD (k + n) 0 : Int) - b.length := by
  have t1 := ends_tail h a c i hi h1
  have t2 := ends_tail h b c k hk h2
  rw [h3] at t1
  generalize endsL r 0 (a ++ c) = P at *
  generalize endsL r 0 (b ++ c) = Q at *
  generalize hE : endsL r (Q[k] - b.length) (c.drop (Q[k] - b.length)) = E at *
  have l1 := congrArg List.length t1
  have l2 := congrArg List.length t2
  rw [List.length_drop, List.length_map] at l1 l2
  refine ⟨by omega, fun n hn => ?_⟩
  rcases n with _ | n
  · rw [Nat.add_zero, Nat.add_zero, getD_at P i hi, getD_at Q k hk]; omega
  · have g1 : P.getD (i + (n + 1)) 0 = E.getD n 0 + a.length := by
      have := congrArg (fun l => l.getD n 0) t1
      simp only [List.getD_eq_getElem?_getD, List.getElem?_drop, List.getElem?_map] at this ⊢
      rw [show i + (n + 1) = i + 1 + n by omega, this, List.getElem?_eq_getElem (by omega)]; rfl
    have g2 : Q.getD (k + (n + 1)) 0 = E.getD n 0 + b.length := by
      have := congrArg (fun l => l.getD n 0) t2
      simp only [List.getD_eq_getElem?_getD, List.getElem?_drop, List.getElem?_map] at this ⊢
      rw [show k + (n + 1) = k + 1 + n by omega, this, List.getElem?_eq_getElem (by omega)]; rfl
    rw [g1, g2]; omega
end Go.Proofs.YthpledfjopbchaaDoor
