/- A slice of bytes appended, as one operation of a drawn region. Condition: a nil slice has no capacity. -/
import Derived.Test.YtkfelfcmpabjoaaEnds
namespace Go.Proofs.Ytkfelfcmpabjoaa
open Go.RowKit
theorem wp_append_sees {o : Oper} {a : Act} {w : World} {K : Act → World → Prop} {Q : Exit → Act → World → Prop} (s x : Operand)
    (ho : o.op = .call { callee := .builtin .append, args := #[s, x], argTypes := #[30, 30] })
    (base : Nat) (v : Value) (n : Nat) (xs : List Value) (hs : a.eval s = v) (hown : w.ownsRow base 5 1 v n xs)
    (q : Option Addr) (l : List (BitVec 8)) (cap b : Nat) (hx : a.eval x = .slice q l.length cap) (hq : q = none → cap = 0) (hl : Sees w b q (l.map u8v))
    (hbytes : n + l.length ≤ 140737488355328) (hbase : base ≤ w.heap.size)
    (h : ∀ v' w', w'.ownsRow base 5 1 v' (n + l.length) (xs ++ l.map u8v) → Below base w w' → K (a.put o.dst v') w') : o.wp Try.prog a w K Q := by
  obtain ⟨i0, hi, hz0, hz1, hz2⟩ := info_parts u8_info
  rcases q with _ | ad
  · have hl0 : l = [] := by
      rcases l with _ | ⟨y, l⟩
      · rfl
      · obtain ⟨a, h1, _⟩ := hl.get (by simp)
        cases h1
    subst hl0
    obtain rfl := hq rfl
    have hrun := run_append_owned_none (P := Try.prog) (w := w) base 30 o.type 5 i0 1 Try.underlying30 hi v n xs hown
    have hx' : a.eval x = .slice none 0 0 := hx
    unfold Oper.wp
    simp [execOp, ho, resolve, invoke, builtin, hs, hx', hrun, Result.andThen]
    exact h v w (by simpa using hown) (Below.refl _ _)
  · refine wp_append_own w s x 30 ho base 5 i0 (.int .u8 0) 1 1 Try.underlying30 hi hz0 hz1 hz2 rfl (by decide) v n xs hs hown ad l.length cap (l.map u8v) hx (by simp) (fun j u hj => ?_) (fun u hu => ?_) (by unfold maxLen; omega) (by omega) hbase (fun v' w' h1 h2 _ => ?_)
    · obtain ⟨a', h1, _, h3⟩ := hl.get (by have := (List.getElem?_eq_some_iff.1 hj).1; omega)
      cases h1
      exact h3 j u hj
    · obtain ⟨y, _, rfl⟩ := List.mem_map.1 hu
      rfl
    · exact h v' w' h1 ((Below.refl base w).grown h2 hbase (fun k hk => own_base hown k hk))
end Go.Proofs.Ytkfelfcmpabjoaa
