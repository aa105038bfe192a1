/- Sets in a walk: package set's calls and the document's own over values that read as these sums; what lasts while memory grows. Condition: at most 10^4 sums each. -/
import Derived.Test.YtihkbblapfjobaaDoorUa
import Derived.Test.YtihkbblapfjobaaDoorUt
import Derived.Test.YtihkbblapfjobaaDoorGv
import Derived.Test.YtihkbblapfjobaaDoorGo
import Derived.Laws.AppendOwnNone
import Derived.Test.YtihkbblapfjobaaDoorCe
namespace Go.Proofs.YtihkbblapfjobaaDoor
open Go.RowKit
theorem Flz.cell {w w' : World} (h : Flz w w') {a : Addr} {v : Value} (hc : w.cell? a = some v) : w'.cell? a = some v := by
  unfold World.cell? at hc ⊢
  cases ho : w.heap[a.block]? with
  | none => rw [ho] at hc; cases hc
  | some o =>
    cases o with
    | cells cs t f =>
      obtain ⟨f', hf⟩ := h.2.2 _ _ _ _ ho
      rw [ho] at hc
      rw [hf]
      exact hc
    | _ => rw [ho] at hc; cases hc
theorem Sees.flz {w w' : World} {b : Nat} {q : Option Addr} {l : List Value} (h : Sees w b q l) (he : Flz w w') : Sees w' b q l := fun hl => by
  obtain ⟨a, h1, h2, h3⟩ := h hl
  exact ⟨a, h1, h2, fun j u hj => he.cell (h3 j u hj)⟩
theorem Us.flz {w w' : World} {v : Value} {L : List Su} (h : Us w v L) (he : Flz w w') : Us w' v L := by
  obtain ⟨q, c, h1, h2, h3, h4⟩ := h
  exact ⟨q, c, h1, h2, h3, (h4.flz he).more he.1⟩
theorem OwnU.flz {w w' : World} {base : Nat} {E : TypeId} {v : Value} {L : List Su} (h : OwnU w base E v L) (he : Flz w w') (hE : E ≠ 5) : OwnU w' base E v L := by
  rcases h.2 with ⟨rfl, h0⟩ | ⟨g', cap, cur, rfl, hb', hg', r⟩
  · exact ⟨h.1, .inl ⟨rfl, h0⟩⟩
  · exact ⟨h.1, .inr ⟨g', cap, cur, rfl, hb', he.2.1 _ _ _ hg' hE, r⟩⟩
/-- Append to a literal of none. -/
theorem wp_app0_su {o : Oper} {a : Act} {w : World} {K : Act → World → Prop} {Q : Exit → Act → World → Prop} (B0 : Nat) (T E : TypeId) (hT : ElT T E) (s x : Operand) (ho : o.op = .call { callee := .builtin .append, args := #[s, x], argTypes := #[T, T] })
    (g : Nat) (hs : a.eval s = .slice (some ⟨g, 0, none⟩) 0 0) (hown : OwnU w B0 E (.slice (some ⟨g, 0, none⟩) 0 0) [])
    (q : Option Addr) (M : List Su) (m cap b : Nat) (hm : M.length = m) (hx : a.eval x = .slice q m cap) (hq : q = none → cap = 0) (hl : Sees w b q (rowU M)) (hn : m ≤ 4000000) (hB0 : B0 ≤ w.heap.size)
    (h : ∀ v' w', OwnU w' B0 E v' M → Below w.heap.size w w' → (v'.ownBlock = some g ∨ ∀ k, v'.ownBlock = some k → w.heap.size ≤ k) → K (a.put o.dst v') w') : o.wp Tryd.prog a w K Q := by
  subst hm
  obtain ⟨i0, hi, hz0, hz1, hz2⟩ := info_parts hT.2.2
  by_cases hl0 : M = []
  · subst hl0
    have hx' : a.eval x = .slice q 0 cap := hx
    have hrun : (Builtin.append_ #[T, T] o.type #[.slice (some ⟨g, 0, none⟩) 0 0, .slice q 0 cap]).run Tryd.prog w = .ok (.slice (some ⟨g, 0, none⟩) 0 0) w := by
      rcases q with _ | ad
      · obtain rfl := hq rfl
        exact run_append_owned_none (P := Tryd.prog) (w := w) B0 T o.type E i0 32 hT.1 hi _ 0 [] hown
      · have h3 := run_append_room_cells (P := Tryd.prog) w T o.type E i0 hT.1 hi g 0 0 0 ad 0 cap [] (by simp) (by simp) (by simp) (by omega) (by simp) (by simp)
        exact h3
    unfold Oper.wp
    simp [execOp, ho, resolve, invoke, builtin, hs, hx', hrun, Result.andThen]
    exact h _ w hown (Below.refl _ _) (.inl rfl)
  · obtain ⟨ad, rfl, _, hc⟩ := hl.get (by have := List.length_pos_iff.2 hl0; rw [rowU_len]; omega)
    have hlp := List.length_pos_iff.2 hl0
    have hbytes : (0 + M.length) * 32 ≤ 140737488355328 := Nat.le_trans (Nat.mul_le_mul (show 0 + M.length ≤ 4000000 by omega) (Nat.le_refl 32)) (by decide)
    obtain ⟨v', w', hrun, r1, r2⟩ := run_append_arg_grows (P := Tryd.prog) w T o.type E i0 _ 32 32 hT.1 hi hz0 hz1 hz2 rfl (by decide) ⟨g, 0, none⟩ 0 0 [] (by simp) (by simp) ad M.length cap (rowU M) (rowU_len M) hc (by omega) (by unfold maxLen; omega) hbytes
    unfold Oper.wp
    simp [execOp, ho, resolve, invoke, builtin, hs, hx, hrun, Result.andThen]
    refine h v' w' ?_ ((Below.refl w.heap.size w).grown r2 (Nat.le_refl _) (fun k hk => by cases hk)) (.inr fun k hk => (World.ownsRow.lt r1 k hk).1)
    have r3 : OwnU w' w.heap.size E v' M := by unfold OwnU; simpa using r1
    exact r3.less hB0
theorem us_row {q : Option Addr} {n c : Nat} {A : List Su} {w : World} (h : A.length = n ∧ Sees w w.heap.size q (rowU A)) (hn : A.length ≤ 10000) : Calls Tryd.prog 24 #[.slice q n c] w fun e w' => (∃ v, e = .returned v ∧ Us w' v (A)) ∧ Below w.heap.size w w' := by
  obtain ⟨rfl, h4⟩ := h
  refine Calls.mono (row_any A q c (by omega) w h4) ?_
  rintro e w' ⟨⟨v, rfl, h5⟩, h6⟩
  exact ⟨⟨v, rfl, h5.us⟩, h6⟩
theorem us_own {v0 : Value} {A : List Su} {w : World} (h : Us w v0 A) (hn : A.length ≤ 10000) : Calls Tryd.prog 25 #[v0] w fun e w' => (∃ v, e = .returned v ∧ Us w' v (A)) ∧ Below w.heap.size w w' := by
  obtain ⟨q, c, rfl, h2, h3, h4⟩ := h
  refine Calls.mono (own10_any A q c (by omega) w h4) ?_
  rintro e w' ⟨⟨v, rfl, h5⟩, h6⟩
  exact ⟨⟨v, rfl, h5.us⟩, h6⟩
theorem us_of {v0 : Value} {A : List Su} {w : World} (h : Us w v0 A) (hn : A.length ≤ 10000) : Calls Tryd.prog 26 #[v0] w fun e w' => (∃ v, e = .returned v ∧ Us w' v (srt A)) ∧ Below w.heap.size w w' := by
  obtain ⟨q, c, rfl, h2, h3, h4⟩ := h
  refine Calls.mono (u_of (⟨rfl, h2, h3, h4⟩ : U w q A.length c A) (by omega)) ?_
  rintro e w' ⟨⟨q5, n5, c5, rfl, h5⟩, h6⟩
  obtain ⟨rfl, g2, g3, g4⟩ := h5
  exact ⟨⟨_, rfl, _, _, rfl, g2, g3, g4⟩, h6⟩
theorem us_good {v0 : Value} {A : List Su} {w : World} (h : Us w v0 A) (hn : A.length ≤ 10000) : Calls Tryd.prog 30 #[v0] w fun e w' => (∃ v, e = .returned v ∧ v = .bool (goodU A)) ∧ Below w.heap.size w w' := by
  obtain ⟨q, c, rfl, h2, h3, h4⟩ := h
  refine Calls.mono (u_good (⟨rfl, h2, h3, h4⟩ : U w q A.length c A) (by omega) _ rfl) ?_
  rintro e w' ⟨rfl, h6⟩
  exact ⟨⟨_, rfl, rfl⟩, h6⟩
theorem us_has {v0 : Value} {A : List Su} {x : Su} {w : World} (h : Us w v0 A) (hn : A.length ≤ 10000) : Calls Tryd.prog 31 #[v0, .agg (encU x).toArray] w fun e w' => (∃ v, e = .returned v ∧ v = .bool (goodU A && decide (x ∈ A))) ∧ Below w.heap.size w w' := by
  obtain ⟨q, c, rfl, h2, h3, h4⟩ := h
  refine Calls.mono (u_has (⟨rfl, h2, h3, h4⟩ : U w q A.length c A) (by omega) _ rfl) ?_
  rintro e w' ⟨rfl, h6⟩
  exact ⟨⟨_, rfl, rfl⟩, h6⟩
theorem us_add {v0 : Value} {A : List Su} {x : Su} {w : World} (h : Us w v0 A) (hn : A.length ≤ 10000) : Calls Tryd.prog 33 #[v0, .agg (encU x).toArray] w fun e w' => (∃ v, e = .returned v ∧ Us w' v (eitU A [x])) ∧ Below w.heap.size w w' := by
  obtain ⟨q, c, rfl, h2, h3, h4⟩ := h
  refine Calls.mono (u_add x (⟨rfl, h2, h3, h4⟩ : U w q A.length c A) (by omega)) ?_
  rintro e w' ⟨⟨q5, n5, c5, rfl, h5⟩, h6⟩
  obtain ⟨rfl, g2, g3, g4⟩ := h5
  exact ⟨⟨_, rfl, _, _, rfl, g2, g3, g4⟩, h6⟩
theorem us_minus {v0 v1 : Value} {A B : List Su} {w : World} (h : Us w v0 A) (k : Us w v1 B) (hn : A.length ≤ 10000) (hm : B.length ≤ 10000) : Calls Tryd.prog 34 #[v0, v1] w fun e w' => (∃ v, e = .returned v ∧ Us w' v (minU A B)) ∧ Below w.heap.size w w' := by
  obtain ⟨q, c, rfl, h2, h3, h4⟩ := h
  obtain ⟨p, d, rfl, k2, k3, k4⟩ := k
  refine Calls.mono (u_minus (⟨rfl, h2, h3, h4⟩ : U w q A.length c A) (⟨rfl, k2, k3, k4⟩ : U w p B.length d B) (by omega) (by omega)) ?_
  rintro e w' ⟨⟨q5, n5, c5, rfl, h5⟩, h6⟩
  obtain ⟨rfl, g2, g3, g4⟩ := h5
  exact ⟨⟨_, rfl, _, _, rfl, g2, g3, g4⟩, h6⟩
theorem us_both {v0 v1 : Value} {A B : List Su} {w : World} (h : Us w v0 A) (k : Us w v1 B) (hn : A.length ≤ 10000) (hm : B.length ≤ 10000) : Calls Tryd.prog 36 #[v0, v1] w fun e w' => (∃ v, e = .returned v ∧ Us w' v (botU A B)) ∧ Below w.heap.size w w' := by
  obtain ⟨q, c, rfl, h2, h3, h4⟩ := h
  obtain ⟨p, d, rfl, k2, k3, k4⟩ := k
  refine Calls.mono (u_both (⟨rfl, h2, h3, h4⟩ : U w q A.length c A) (⟨rfl, k2, k3, k4⟩ : U w p B.length d B) (by omega) (by omega)) ?_
  rintro e w' ⟨⟨q5, n5, c5, rfl, h5⟩, h6⟩
  obtain ⟨rfl, g2, g3, g4⟩ := h5
  exact ⟨⟨_, rfl, _, _, rfl, g2, g3, g4⟩, h6⟩
theorem us_either {v0 v1 : Value} {A B : List Su} {w : World} (h : Us w v0 A) (k : Us w v1 B) (hn : A.length ≤ 10000) (hm : B.length ≤ 10000) : Calls Tryd.prog 38 #[v0, v1] w fun e w' => (∃ v, e = .returned v ∧ Us w' v (eitU A B)) ∧ Below w.heap.size w w' := by
  obtain ⟨q, c, rfl, h2, h3, h4⟩ := h
  obtain ⟨p, d, rfl, k2, k3, k4⟩ := k
  refine Calls.mono (u_either (⟨rfl, h2, h3, h4⟩ : U w q A.length c A) (⟨rfl, k2, k3, k4⟩ : U w p B.length d B) (by omega) (by omega)) ?_
  rintro e w' ⟨⟨q5, n5, c5, rfl, h5⟩, h6⟩
  obtain ⟨rfl, g2, g3, g4⟩ := h5
  exact ⟨⟨_, rfl, _, _, rfl, g2, g3, g4⟩, h6⟩
theorem us_same {v0 v1 : Value} {A B : List Su} {w : World} (h : Us w v0 A) (k : Us w v1 B) (hn : A.length ≤ 10000) (_hm : B.length ≤ 10000) : Calls Tryd.prog 40 #[v0, v1] w fun e w' => (∃ v, e = .returned v ∧ v = .bool (goodU A && decide (A = B))) ∧ Below w.heap.size w w' := by
  obtain ⟨q, c, rfl, h2, h3, h4⟩ := h
  obtain ⟨p, d, rfl, k2, k3, k4⟩ := k
  refine Calls.mono (u_same (⟨rfl, h2, h3, h4⟩ : U w q A.length c A) (⟨rfl, k2, k3, k4⟩ : U w p B.length d B) (by omega) _ rfl) ?_
  rintro e w' ⟨rfl, h6⟩
  exact ⟨⟨_, rfl, rfl⟩, h6⟩
theorem us_tell {v0 : Value} {A : List Su} {w : World} (h : Us w v0 A) (hn : A.length ≤ 10000) (hL : Laid w) : Calls Tryd.prog 41 #[v0] w fun e w' => (∃ v, e = .returned v ∧ v = .agg (encU (tellU A)).toArray) ∧ Below w.heap.size w w' := by
  obtain ⟨q, c, rfl, h2, h3, h4⟩ := h
  refine Calls.mono (u_tell hL (⟨rfl, h2, h3, h4⟩ : U w q A.length c A) (by omega)) ?_
  rintro e w' ⟨rfl, h6⟩
  exact ⟨⟨_, rfl, rfl⟩, h6⟩
theorem us_rof {v0 : Value} {A : List Su} {w : World} (h : Us w v0 A) (hn : A.length ≤ 10000) : Calls Tryd.prog 29 #[v0] w fun e w' => (∃ v, e = .returned v ∧ Us w' v (srt A)) ∧ Below w.heap.size w w' := by
  obtain ⟨q, c, rfl, h2, h3, h4⟩ := h
  refine Calls.mono (rof0_any A q c (by omega) w h4) ?_
  rintro e w' ⟨⟨v, rfl, h5⟩, h6⟩
  exact ⟨⟨v, rfl, h5⟩, h6⟩
theorem us_rgood {v0 : Value} {A : List Su} {w : World} (h : Us w v0 A) (hn : A.length ≤ 10000) : Calls Tryd.prog 27 #[v0] w fun e w' => (∃ v, e = .returned v ∧ v = .bool (goodU A)) ∧ Below w.heap.size w w' := by
  obtain ⟨q, c, rfl, h2, h3, h4⟩ := h
  refine Calls.mono (rgood0_any A q c (by omega) w h4) ?_
  rintro e w' ⟨rfl, h6⟩
  exact ⟨⟨_, rfl, rfl⟩, h6⟩
theorem us_rsame {v0 v1 : Value} {A B : List Su} {w : World} (h : Us w v0 A) (k : Us w v1 B) (hn : A.length ≤ 10000) (_hm : B.length ≤ 10000) : Calls Tryd.prog 28 #[v0, v1] w fun e w' => (∃ v, e = .returned v ∧ v = .bool (decide (A = B))) ∧ Below w.heap.size w w' := by
  obtain ⟨q, c, rfl, h2, h3, h4⟩ := h
  obtain ⟨p, d, rfl, k2, k3, k4⟩ := k
  refine Calls.mono (rsame_any A B q p c d (by omega) w h4 k4) ?_
  rintro e w' ⟨rfl, h6⟩
  exact ⟨⟨_, rfl, rfl⟩, h6⟩
theorem us_rhas {v0 : Value} {A : List Su} {x : Su} {w : World} (h : Us w v0 A) (hn : A.length ≤ 10000) : Calls Tryd.prog 32 #[v0, .agg (encU x).toArray] w fun e w' => (∃ v, e = .returned v ∧ v = .bool (decide (x ∈ A))) ∧ Below w.heap.size w w' := by
  obtain ⟨q, c, rfl, h2, h3, h4⟩ := h
  refine Calls.mono (rhas_any A x q c (by omega) w h4) ?_
  rintro e w' ⟨rfl, h6⟩
  exact ⟨⟨_, rfl, rfl⟩, h6⟩
theorem us_rminus {v0 v1 : Value} {A B : List Su} {w : World} (h : Us w v0 A) (k : Us w v1 B) (hn : A.length ≤ 10000) (hm : B.length ≤ 10000) : Calls Tryd.prog 35 #[v0, v1] w fun e w' => (∃ v, e = .returned v ∧ Us w' v (minU A B)) ∧ Below w.heap.size w w' := by
  obtain ⟨q, c, rfl, h2, h3, h4⟩ := h
  obtain ⟨p, d, rfl, k2, k3, k4⟩ := k
  refine Calls.mono (rminus_any A B q p c d (by omega) (by omega) w h4 k4) ?_
  rintro e w' ⟨⟨v, rfl, h5⟩, h6⟩
  exact ⟨⟨v, rfl, h5⟩, h6⟩
theorem us_rboth {v0 v1 : Value} {A B : List Su} {w : World} (h : Us w v0 A) (k : Us w v1 B) (hn : A.length ≤ 10000) (hm : B.length ≤ 10000) : Calls Tryd.prog 37 #[v0, v1] w fun e w' => (∃ v, e = .returned v ∧ Us w' v (botU A B)) ∧ Below w.heap.size w w' := by
  obtain ⟨q, c, rfl, h2, h3, h4⟩ := h
  obtain ⟨p, d, rfl, k2, k3, k4⟩ := k
  refine Calls.mono (rboth_any A B q p c d (by omega) (by omega) w h4 k4) ?_
  rintro e w' ⟨⟨v, rfl, h5⟩, h6⟩
  exact ⟨⟨v, rfl, h5⟩, h6⟩
theorem us_reither {v0 v1 : Value} {A B : List Su} {w : World} (h : Us w v0 A) (k : Us w v1 B) (hn : A.length ≤ 10000) (hm : B.length ≤ 10000) : Calls Tryd.prog 39 #[v0, v1] w fun e w' => (∃ v, e = .returned v ∧ Us w' v (eitU A B)) ∧ Below w.heap.size w w' := by
  obtain ⟨q, c, rfl, h2, h3, h4⟩ := h
  obtain ⟨p, d, rfl, k2, k3, k4⟩ := k
  refine Calls.mono (reither_any A B q p c d (by omega) (by omega) h3 k3 w h4 k4) ?_
  rintro e w' ⟨⟨v, rfl, h5⟩, h6⟩
  exact ⟨⟨v, rfl, h5⟩, h6⟩
theorem us_rtell {v0 : Value} {A : List Su} {w : World} (h : Us w v0 A) (hn : A.length ≤ 10000) : Calls Tryd.prog 42 #[v0] w fun e w' => (∃ v, e = .returned v ∧ v = .agg (encU (tellU A)).toArray) ∧ Below w.heap.size w w' := by
  refine Calls.mono (rtell_any h (by omega)) ?_
  rintro e w' ⟨rfl, h6⟩
  exact ⟨⟨_, rfl, rfl⟩, h6⟩
end Go.Proofs.YtihkbblapfjobaaDoor
/- A row put behind a literal of none, then one more put behind that: what the rest keeps. No condition. -/
namespace Go.Proofs.YtihkbblapfjobaaDoor
open Go.RowKit
/-- What lies beside a row that has just been put behind a literal of none. -/
def App (b : Nat) (T : TypeId) (u v : Value) (L M : List Su) (w : World) : Prop :=
  (M = [] ∧ (∃ g, v = .slice (some ⟨g, 0, none⟩) 0 0) ∧ OwnU w b T v [] ∧ Us w u L) ∨
  ∃ β, b ≤ β ∧ β ≤ w.heap.size ∧ OwnU w β T v M ∧ ∃ q c, u = .slice q L.length c ∧ L.length ≤ c ∧ (q = none → c = 0) ∧ Sees w β q (rowU L)
theorem App.flz {b : Nat} {T : TypeId} {u v : Value} {L M : List Su} {w w' : World} (h : App b T u v L M w) (he : Flz w w') (hT : T ≠ 5) : App b T u v L M w' := by
  rcases h with ⟨h1, h2, h3, h4⟩ | ⟨β, h1, h2, h3, q, c, h4, h5, h6, h7⟩
  · exact .inl ⟨h1, h2, h3.flz he hT, h4.flz he⟩
  · exact .inr ⟨β, h1, Nat.le_trans h2 he.1, h3.flz he hT, q, c, h4, h5, h6, h7.flz he⟩
theorem App.us {b : Nat} {T : TypeId} {u v : Value} {L M : List Su} {w : World} (h : App b T u v L M w) : Us w u L := by
  rcases h with ⟨_, _, _, h⟩ | ⟨β, _, h2, _, q, c, h4, h5, h6, h7⟩
  · exact h
  · exact ⟨q, c, h4, h5, h6, h7.more h2⟩
/-- Append to a literal of none: what is beside it. -/
theorem wp_app0_x {o : Oper} {a : Act} {w : World} {K : Act → World → Prop} {Q : Exit → Act → World → Prop} (B0 : Nat) (T E : TypeId) (hT : ElT T E) (s x : Operand) (ho : o.op = .call { callee := .builtin .append, args := #[s, x], argTypes := #[T, T] })
    (g : Nat) (hs : a.eval s = .slice (some ⟨g, 0, none⟩) 0 0) (hown : OwnU w B0 E (.slice (some ⟨g, 0, none⟩) 0 0) []) (vm u : Value) (L M : List Su) (hm : Us w vm M) (hx : a.eval x = vm) (hu : Us w u L) (hn : M.length ≤ 4000000) (hB0 : B0 ≤ w.heap.size)
    (h : ∀ v' w', App B0 E u v' L M w' → Below w.heap.size w w' → K (a.put o.dst v') w') : o.wp Tryd.prog a w K Q := by
  obtain ⟨q, cap, rfl, _, hq, hl⟩ := hm
  obtain ⟨i0, hi, hz0, hz1, hz2⟩ := info_parts hT.2.2
  by_cases hl0 : M = []
  · subst hl0
    have hx' : a.eval x = .slice q 0 cap := hx
    have hrun : (Builtin.append_ #[T, T] o.type #[.slice (some ⟨g, 0, none⟩) 0 0, .slice q 0 cap]).run Tryd.prog w = .ok (.slice (some ⟨g, 0, none⟩) 0 0) w := by
      rcases q with _ | ad
      · obtain rfl := hq rfl
        exact run_append_owned_none (P := Tryd.prog) (w := w) B0 T o.type E i0 32 hT.1 hi _ 0 [] hown
      · have h3 := run_append_room_cells (P := Tryd.prog) w T o.type E i0 hT.1 hi g 0 0 0 ad 0 cap [] (by simp) (by simp) (by simp) (by omega) (by simp) (by simp)
        exact h3
    unfold Oper.wp
    simp [execOp, ho, resolve, invoke, builtin, hs, hx', hrun, Result.andThen]
    exact h _ w (.inl ⟨rfl, ⟨g, rfl⟩, hown, hu⟩) (Below.refl _ _)
  · obtain ⟨ad, rfl, _, hc⟩ := hl.get (by have := List.length_pos_iff.2 hl0; rw [rowU_len]; omega)
    have hlp := List.length_pos_iff.2 hl0
    have hbytes : (0 + M.length) * 32 ≤ 140737488355328 := Nat.le_trans (Nat.mul_le_mul (show 0 + M.length ≤ 4000000 by omega) (Nat.le_refl 32)) (by decide)
    obtain ⟨v', w', hrun, r1, r2⟩ := run_append_arg_grows (P := Tryd.prog) w T o.type E i0 _ 32 32 hT.1 hi hz0 hz1 hz2 rfl (by decide) ⟨g, 0, none⟩ 0 0 [] (by simp) (by simp) ad M.length cap (rowU M) (rowU_len M) hc (by omega) (by unfold maxLen; omega) hbytes
    unfold Oper.wp
    simp [execOp, ho, resolve, invoke, builtin, hs, hx, hrun, Result.andThen]
    have hb : Below w.heap.size w w' := (Below.refl w.heap.size w).grown r2 (Nat.le_refl _) (fun k hk => by cases hk)
    have r3 : OwnU w' w.heap.size E v' M := by unfold OwnU; simpa using r1
    obtain ⟨p, d, h4, h5, h6, h7⟩ := hu
    exact h v' w' (.inr ⟨w.heap.size, hB0, hb.size, r3, p, d, h4, h5, h6, h7.keep hb⟩) hb
/-- One more put behind it. -/
theorem wp_app1_x {o : Oper} {a : Act} {w : World} {K : Act → World → Prop} {Q : Exit → Act → World → Prop} (b : Nat) (T E : TypeId) (hT : ElT T E) (s x : Operand) (ho : o.op = .call { callee := .builtin .append, args := #[s, x], argTypes := #[T, T] })
    (u v : Value) (L M : List Su) (hA : App b E u v L M w) (hs : a.eval s = v) (g : Nat) (y : Su) (hx : a.eval x = .slice (some ⟨g, 0, none⟩) 1 1) (hg : Has w g E (encU y)) (hn : M.length + 1 ≤ 4000000) (hb : b ≤ w.heap.size)
    (h : ∀ v' w', Us w' v' (M ++ [y]) → Us w' u L → Below b w w' → K (a.put o.dst v') w') : o.wp Tryd.prog a w K Q := by
  have hy : Sees w w.heap.size (some ⟨g, 0, none⟩) (rowU [y]) := by rw [rowU_one]; exact Sees.of_has hg hg.lt
  rcases hA with ⟨rfl, ⟨k, rfl⟩, h3, h4⟩ | ⟨β, h1, h2, h3, q, c, h4, h5, h6, h7⟩
  · have hyu : Us w (.slice (some ⟨g, 0, none⟩) 1 1) [y] := ⟨_, 1, rfl, Nat.le_refl _, fun h => (by cases h), hy⟩
    refine wp_app0_x b T E hT s x ho k hs h3 _ u L [y] hyu hx h4 (by simp) hb fun v' w' ha hb' => ?_
    refine h v' w' ?_ ha.us (hb'.mono hb)
    rcases ha with ⟨h8, _⟩ | ⟨β, _, _, h9, _⟩
    · cases h8
    · exact h9.us
  · refine wp_append_su T E hT s x ho β v M hs h3 (some ⟨g, 0, none⟩) [y] 1 1 w.heap.size rfl hx (fun h => by cases h) hy hn h2 fun v' w' g1 g2 => ?_
    have hb' : Below β w w' := (Below.refl β w).grown g2 h2 (fun k hk => h3.base k hk)
    exact h v' w' g1.us ⟨q, c, h4, h5, h6, (h7.keep hb').more (Nat.le_trans h2 hb'.size)⟩ (hb'.mono h1)
theorem as_val {P : Program} {g : FuncId} {us : Array Value} {w : World} {u : Value} (h : Calls P g us w fun e w' => e = .returned u ∧ Below w.heap.size w w') : Calls P g us w fun e w' => (∃ v, e = .returned v ∧ v = u) ∧ Below w.heap.size w w' :=
  Calls.mono h fun _ _ k => ⟨⟨u, k.1, rfl⟩, k.2⟩
theorem as_anyU {P : Program} {g : FuncId} {us : Array Value} {w : World} {u u' : Value} (h : Calls P g us w fun e w' => (∃ v, e = .returned v ∧ v = u) ∧ Below w.heap.size w w') (e : u = u') : Calls P g us w fun e w' => (∃ v, e = .returned v ∧ v = u') ∧ Below w.heap.size w w' := e ▸ h
/-- A literal of none, as one operation. -/
theorem wp_nil_x {o : Oper} {a : Act} {w : World} {K : Act → World → Prop} {Q : Exit → Act → World → Prop} (b : Nat) (T E : TypeId) (hT : ElT T E) (ho : o.op = .buildSlice T 0 #[]) (hb : b ≤ w.heap.size)
    (h : ∀ w', (∃ g, OwnU w' b E (.slice (some ⟨g, 0, none⟩) 0 0) [] ∧ g = w.heap.size) → Below w.heap.size w w' → K (a.put o.dst (.slice (some ⟨w.heap.size, 0, none⟩) 0 0)) w') : o.wp Tryd.prog a w K Q :=
  wp_none_su T E hT ho (h _ ⟨_, (OwnU.empty w b E hb), rfl⟩ ((Below.refl _ _).alloc (Nat.le_refl _) _))
/-- It reads as these sums, in a block of the call's own, made since. -/
def UsN (n : Nat) (w : World) (v : Value) (L : List Su) : Prop := Us w v L ∧ ∀ k, blkOf v = some k → n ≤ k ∧ k < w.heap.size
theorem UsN.flz {n : Nat} {w w' : World} {v : Value} {L : List Su} (h : UsN n w v L) (he : Flz w w') : UsN n w' v L := ⟨h.1.flz he, fun k hk => ⟨(h.2 k hk).1, Nat.lt_of_lt_of_le (h.2 k hk).2 he.1⟩⟩
theorem OwnU.usn {n : Nat} {w : World} {E : TypeId} {v : Value} {L : List Su} (h : OwnU w n E v L) : UsN n w v L := ⟨h.us, fun k hk => by
  refine World.ownsRow.lt h k ?_
  rcases h.2 with ⟨rfl, _⟩ | ⟨g, cap, cur, rfl, _⟩
  · cases hk
  · exact hk⟩
theorem UsN.less {n m : Nat} {w : World} {v : Value} {L : List Su} (h : UsN n w v L) (hm : m ≤ n) : UsN m w v L := ⟨h.1, fun k hk => ⟨Nat.le_trans hm (h.2 k hk).1, (h.2 k hk).2⟩⟩
theorem usn_row {w : World} {q : Option Addr} {n c : Nat} {A : List Su} (h : A.length = n ∧ Sees w w.heap.size q (rowU A)) (hn : A.length ≤ 10000) : Calls Tryd.prog 24 #[.slice q n c] w fun e w' => (∃ v, e = .returned v ∧ UsN w.heap.size w' v A) ∧ Below w.heap.size w w' := by
  obtain ⟨rfl, h4⟩ := h
  refine Calls.mono (row_any A q c (by omega) w h4) ?_
  rintro e w' ⟨⟨v, rfl, h5⟩, h6⟩
  exact ⟨⟨v, rfl, h5.usn⟩, h6⟩
theorem usn_own {w : World} {v0 : Value} {A : List Su} (h : Us w v0 A) (hn : A.length ≤ 10000) : Calls Tryd.prog 25 #[v0] w fun e w' => (∃ v, e = .returned v ∧ UsN w.heap.size w' v A) ∧ Below w.heap.size w w' := by
  obtain ⟨q, c, rfl, h2, h3, h4⟩ := h
  refine Calls.mono (own10_any A q c (by omega) w h4) ?_
  rintro e w' ⟨⟨v, rfl, h5⟩, h6⟩
  exact ⟨⟨v, rfl, h5.usn⟩, h6⟩
/-- Rows stay where another block is written. -/
theorem Us.hot {w w' : World} {v : Value} {L : List Su} {g : Nat} (h : Us w v L) (hb : blkOf v ≠ some g) (hs : w.heap.size ≤ w'.heap.size) (hot : ∀ k, k ≠ g → w'.heap[k]? = w.heap[k]?) : Us w' v L := by
  obtain ⟨q, c, rfl, h2, h3, h4⟩ := h
  refine ⟨q, c, rfl, h2, h3, fun hl => ?_⟩
  obtain ⟨a, rfl, h6, h7⟩ := h4 hl
  refine ⟨a, rfl, Nat.lt_of_lt_of_le h6 hs, fun j u hu => ?_⟩
  have hne : a.block ≠ g := fun e => hb (by rw [← e]; rfl)
  have h8 : w'.heap[(a.add j).block]? = w.heap[(a.add j).block]? := by rw [add_block]; exact hot _ hne
  rw [World.cell?_of_block h8]
  exact h7 j u hu
end Go.Proofs.YtihkbblapfjobaaDoor
