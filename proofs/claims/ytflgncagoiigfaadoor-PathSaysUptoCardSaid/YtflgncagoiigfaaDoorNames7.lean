/- Contract: the document's own names: what stands between a path's slashes. Condition: a text of at most 2^20 bytes. -/
import Derived.Test.YtflgncagoiigfaaDoorJoins7
import Derived.Test.YtflgncagoiigfaaDoorSort7
namespace Go.Proofs.YtflgncagoiigfaaDoor
open Go.RowKit
/-- One text is put behind a row that the call owns (more room than wp_addT). -/
theorem wp_addU {ops : Array Oper} {rest : List Oper} {o : Oper} {a : Act} {Q : Exit → Act → World → Prop}
    (hgd : o.guard = none) (sl x : Operand) (ho : o.op = .call { callee := .builtin .append, args := #[sl, x], argTypes := #[23, 23] }) {w : World} {base : Nat} {v : Value} {xs : List Value} (R : w.ownsRow base 9 1 v xs.length xs) (hbase : base ≤ w.heap.size)
    (hs : a.eval sl = v) (g : Nat) (u : Value) (hx : a.eval x = .slice (some ⟨g, 0, none⟩) 1 1) (hc : w.cell? ⟨g, 0, none⟩ = some u) (hu : u.oneCell' = true) (hn : xs.length ≤ 2000000)
    (h : ∀ v' w', w'.ownsRow base 9 1 v' (xs ++ [u]).length (xs ++ [u]) → Below base w w' → wpList Tryd.prog ops Q rest (a.put o.dst v') w') : wpList Tryd.prog ops Q (o :: rest) a w := by
  obtain ⟨i0, hi, hz0, hz1, hz2⟩ := info_parts str_info
  refine wpList_append_own _ hgd sl x 23 ho base 9 i0 (.string ⟨#[]⟩) 1 16 Tryd.underlying23 hi hz0 hz1 hz2 rfl (by decide) v xs.length xs hs R ⟨g, 0, none⟩ 1 1 [u] hx rfl ?_ ?_ (by unfold maxLen; omega) ?_ hbase
    fun v' w' ho' hg' _ => h v' w' (by rw [List.length_append]; exact ho') ((Below.refl base w).grown hg' hbase (fun k hk => own_base7 R k hk))
  · intro j y hj
    cases j with
    | zero => simp at hj; subst hj; simpa [Addr.add] using hc
    | succ j => simp at hj
  · intro y hy; simp at hy; subst hy; exact hu
  · exact Nat.le_trans (Nat.mul_le_mul (show xs.length + 1 ≤ 2000001 by omega) (Nat.le_refl 16)) (by decide)
/-- Where the walk through the text stands: the names so far, the text behind them, no slash since. -/
def NSt (S : Tx) (G : List Tx) (f i : Nat) : Prop := (i ≤ S.length ∧ f ≤ i ∧ nms S = G ++ nms (S.drop f) ∧ 47 ∉ (S.drop f).take (i - f)) ∨ (i = S.length + 1 ∧ G = nms S)
theorem NSt.len {S : Tx} {G : List Tx} {f i : Nat} (h : NSt S G f i) : G.length ≤ S.length + 1 := by
  have hc : (nms S).length ≤ S.length + 1 := by rw [nms_count]; have : S.count 47 ≤ S.length := List.count_le_length; omega
  rcases h with ⟨_, _, h3, _⟩ | ⟨_, h2⟩
  · rw [h3, List.length_append] at hc; omega
  · rw [h2]; exact hc
theorem NSt.last {S : Tx} {G : List Tx} {f : Nat} (h : NSt S G f S.length) : NSt S (G ++ [(S.drop f).take (S.length - f)]) (S.length + 1) (S.length + 1) := by
  rcases h with ⟨_, h2, h3, h4⟩ | ⟨h1, _⟩
  · refine .inr ⟨rfl, ?_⟩
    have e : (S.drop f).take (S.length - f) = S.drop f := List.take_of_length_le (by rw [List.length_drop]; exact Nat.le_refl _)
    rw [e] at h4 ⊢
    rw [h3, nms_plain h4]
  · omega
theorem drop_split (S : Tx) (f i : Nat) (hf : f ≤ i) (hi : i < S.length) : S.drop f = (S.drop f).take (i - f) ++ S[i] :: S.drop (i + 1) := by
  have h1 := (List.take_append_drop (i - f) (S.drop f)).symm
  rw [List.drop_drop, show f + (i - f) = i by omega, List.drop_eq_getElem_cons hi] at h1
  exact h1
theorem NSt.cut {S : Tx} {G : List Tx} {f i : Nat} (h : NSt S G f i) (hi : i < S.length) (hc : S[i] = 47) : NSt S (G ++ [(S.drop f).take (i - f)]) (i + 1) (i + 1) := by
  rcases h with ⟨_, h2, h3, h4⟩ | ⟨h1, _⟩
  · refine .inl ⟨by omega, Nat.le_refl _, ?_, by simp⟩
    have hd := drop_split S f i h2 hi
    rw [hc] at hd
    rw [h3]
    conv => lhs; rw [hd]
    rw [nms_sep, nms_plain h4, List.append_assoc]
  · omega
theorem NSt.on {S : Tx} {G : List Tx} {f i : Nat} (h : NSt S G f i) (hi : i < S.length) (hc : S[i] ≠ 47) : NSt S G f (i + 1) := by
  rcases h with ⟨_, h2, h3, h4⟩ | ⟨h1, _⟩
  · refine .inl ⟨by omega, by omega, h3, ?_⟩
    rw [show i + 1 - f = (i - f) + 1 by omega, List.take_add_one, List.getElem?_drop, show f + (i - f) = i by omega, List.getElem?_eq_getElem hi]
    simp only [List.mem_append, Option.mem_toList, Option.some.injEq, not_or]
    exact ⟨h4, fun e => hc (by simpa using e)⟩
  · omega
set_option maxHeartbeats 4000000 in
set_option maxRecDepth 100000 in
theorem names_any (s : ByteArray) (hs : s.size ≤ 1048576) (w : World) :
    Calls Tryd.prog 39 #[.string s] w fun e w' => (∃ v, e = .returned v ∧ Ts w' v (nms s.data.toList)) ∧ Below w.heap.size w w' := by
  have hsz : s.data.toList.length = s.size := rfl
  have HNIL := Lib.hid (World.ownsRow_nil w w.heap.size 9 1)
  have HST : Hid (NSt s.data.toList [] 0 0) := Lib.hid (.inl ⟨by omega, Nat.le_refl _, by simp, by simp⟩)
  have HSZ := Lib.hid hsz
  clear hsz
  go_enter Tryd.func39, Tryd.ntmps39
  go_wp2_with fail
  go_loopw [3, 4, 5] (fun v vf vi wr => ∃ (G : List Tx) (f i : Nat), i ≤ s.size + 1 ∧ f ≤ i ∧ vi = .int .i64 i ∧ vf = .int .i64 f ∧ NSt s.data.toList G f i ∧ wr.ownsRow w.heap.size 9 1 v (G.map encStr).length (G.map encStr) ∧ Below w.heap.size w wr) (fun _ _ vi _ => s.size + 1 - (intOf vi).toNat)
  case atStart => exact ⟨[], 0, 0, by omega, Nat.le_refl _, rfl, rfl, HST.out, HNIL.out, Below.refl _ _⟩
  case round =>
    rename_i wr
    obtain ⟨G, f, i, hi, hfi, rfl, rfl, hst, hrow, hB⟩ := hrel
    have HROW := Lib.hid hrow
    have HB := Lib.hid hB
    have HS := Lib.hid hst
    have hgl := hst.len
    rw [HSZ.out] at hgl
    have kw : IntKind.i64.wrap ((i : Int) + 1) = ((i + 1 : Nat) : Int) := by rw [IntWalk.i64_in _ (by omega)]; omega
    clear hrow hB hst
    by_cases hle : i ≤ s.size
    · have HLEN : Hid ((G.map encStr).length ≤ 2000000) := Lib.hid (by rw [List.length_map]; omega)
      have hcut : s.extract f i = ⟨((s.data.toList.drop f).take (i - f)).toArray⟩ := Lib.extract_eq s f i
      have HCUT := Lib.hid hcut
      have hge : w.heap.size ≤ wr.heap.size := HB.out.size
      clear hcut
      have HREL : Hid (∀ (v3 : Value) (w3 : World), w3.ownsRow w.heap.size 9 1 v3 (G.map encStr ++ [Value.string (s.extract f i)]).length (G.map encStr ++ [Value.string (s.extract f i)]) → Below w.heap.size (wr.alloc (.cells #[.string (s.extract f i)] 9)) w3 → NSt s.data.toList (G ++ [(s.data.toList.drop f).take (i - f)]) (i + 1) (i + 1) →
          ∃ (G' : List Tx) (f' i' : Nat), i' ≤ s.size + 1 ∧ f' ≤ i' ∧ (Value.int .i64 ((i : Int) + 1)) = .int .i64 i' ∧ (Value.int .i64 ((i : Int) + 1)) = .int .i64 f' ∧ NSt s.data.toList G' f' i' ∧ w3.ownsRow w.heap.size 9 1 v3 (G'.map encStr).length (G'.map encStr) ∧ Below w.heap.size w w3) :=
        Lib.hid (fun v3 w3 h1 h2 h3 => by
          rw [HCUT.out] at h1
          rw [show G.map encStr ++ [Value.string ⟨((s.data.toList.drop f).take (i - f)).toArray⟩] = (G ++ [(s.data.toList.drop f).take (i - f)]).map encStr by rw [List.map_append]; rfl] at h1
          exact ⟨_, i + 1, i + 1, by omega, Nat.le_refl _, by go_num, by go_num, h3, h1, (HB.out.alloc HB.out.size _).trans h2⟩)
      by_cases heq : i = s.size
      · subst heq
        have HS3 := Lib.hid HS.out.last
        rw [HSZ.out] at HS3
        go_wp2_with (refine wp_addU rfl (.tmp 22) (.tmp 27) rfl (base := w.heap.size) (HROW.out.alloc (.cells #[.string (s.extract f s.size)] 9)) (by simp; omega) rfl wr.heap.size (.string (s.extract f s.size)) rfl (by simp) rfl HLEN.out ?_; intro v3 w3 h1 h2; have HROW2 := Lib.hid h1; have HB5 := Lib.hid h2; clear h1 h2 HROW)
        refine ⟨HREL.out _ _ HROW2.out HB5.out HS3.out, ?_⟩
        simp [intOf] <;> omega
      · have hlt : i < s.size := by omega
        have hget : s.data.toList[i]'hlt = s[i]'hlt := by
          have h1 := byte_at s i hlt
          exact (List.getElem?_eq_some_iff.1 h1).2
        have k0 : ¬ (i : Int) = (s.size : Int) := by omega
        by_cases h47 : s[i]'hlt = 47
        · have HS3 := Lib.hid (HS.out.cut (show i < s.data.toList.length from hlt) (hget.trans h47))
          have k1 : ((s[i]'hlt).toNat : Int) = 47 := congrArg (fun c : UInt8 => (c.toNat : Int)) h47
          clear hget
          go_wp2_with (refine wp_addU rfl (.tmp 22) (.tmp 27) rfl (base := w.heap.size) (HROW.out.alloc (.cells #[.string (s.extract f i)] 9)) (by simp; omega) rfl wr.heap.size (.string (s.extract f i)) rfl (by simp) rfl HLEN.out ?_; intro v3 w3 h1 h2; have HROW2 := Lib.hid h1; have HB5 := Lib.hid h2; clear h1 h2 HROW)
          refine ⟨HREL.out _ _ HROW2.out HB5.out HS3.out, ?_⟩
          simp [intOf]; omega
        · have HS3 := Lib.hid (HS.out.on (show i < s.data.toList.length from hlt) (by rw [hget]; exact h47))
          have k1 : ¬ ((s[i]'hlt).toNat : Int) = 47 := fun e => h47 (UInt8.toNat_inj.1 (by show (s[i]'hlt).toNat = 47; omega))
          have k2 : ((i : Int) == (s.size : Int)) = false := by rw [beq_eq_false_iff_ne]; exact k0
          have k3 : (((s[i]'hlt).toNat : Int) == 47) = false := by rw [beq_eq_false_iff_ne]; exact k1
          clear hget h47 HREL
          go_wp2_with fail
          go_roundw
          case rel => exact ⟨G, f, i + 1, by omega, by omega, by go_num, rfl, HS3.out, HROW.out, HB.out⟩
          case measure => simp [intOf]; omega
    · have hi2 : i = s.size + 1 := by omega
      have hg : G = nms s.data.toList := by
        rcases HS.out with ⟨h1, _⟩ | ⟨_, h2⟩
        · rw [HSZ.out] at h1; omega
        · exact h2
      have k0 : ¬ (i : Int) ≤ (s.size : Int) := by omega
      have HT := Lib.hid (Ts.own HROW.out)
      rw [hg] at HT
      clear hg HROW
      go_wp2_with fail
      go_ret
      exact ⟨⟨_, rfl, HT.out⟩, HB.out⟩
end Go.Proofs.YtflgncagoiigfaaDoor
