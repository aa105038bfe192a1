/- Contracts: Errno.Error of 12, cause.words of it, strconv.AppendInt of 7, (*Cause).Error of what awake asks. Conditions: the two variables as laid. -/
import Derived.Test.YtgaphplndpdhaaaFmtOut
import Derived.Lib.AppendStr
import Derived.Laws.OwnMore
namespace Go.Proofs.YtgaphplndpdhaaaFmt
open Go.RowKit
theorem u8_info : (Tryf.prog.info? 5).map (fun i => (i.zero, i.size, i.bytes)) = some (some (.int .u8 0), 1, 1) := by kernel_rfl
set_option maxRecDepth 100000 in
theorem small7 (w : World) : Calls Tryf.prog 37 #[.int .i64 7] w fun e w' => e = .returned (.string ⟨#[55]⟩) ∧ w' = w := by
  go_enter Tryf.func37, Tryf.ntmps37
  go_wp2
  go_ret
  exact ⟨rfl, rfl⟩
set_option maxRecDepth 100000 in
theorem small12 (w : World) : Calls Tryf.prog 37 #[.int .i64 12] w fun e w' => e = .returned (.string ⟨#[49, 50]⟩) ∧ w' = w := by
  go_enter Tryf.func37, Tryf.ntmps37
  go_wp2
  go_ret
  exact ⟨rfl, rfl⟩
def err12 : ByteArray := ⟨#[101, 114, 114, 111, 114, 32, 49, 50]⟩
theorem errno12 (w : World) : Calls Tryf.prog 65 #[.int .i64 12] w fun e w' => e = .returned (.string err12) ∧ w' = w := by
  go_enter Tryf.func65, Tryf.ntmps65
  go_wp2_with (first
    | (go_at_call 37; refine (small12 _).mono ?_; rintro e w' ⟨rfl, rfl⟩)
    | go_in)
  go_ret
  exact ⟨rfl, rfl⟩
theorem idle_words (p : Addr) (w : World) :
    CallsD Tryf.prog 28 #[.pointer (some p)] .returning w fun e u' w' => e = .returned (.tuple #[]) ∧ u' = .returning ∧ w' = w := by
  refine callsD_of_wpS Tryf.func28 rfl fun c₀ cs hu => ?_
  apply wpS_seq
  apply wpS_region
  simp [wpOpsS, go_sem, recoverD, hu, Tryf.ntmps28, Exit.thenS]
  refine wpS_cond (t := false) (by simp [Act.eval, Array.replicate]) ?_
  simp only [Bool.false_eq_true, if_false]
  refine wpS_of_wp (wp_skip ?_)
  cases c₀
  simp_all [bodyPostS, results, Tryf.results28]
theorem words12 (w : World) : Calls Tryf.prog 21 #[.iface 26 (.int .i64 12)] w fun e w' => e = .returned (.string err12) ∧ Below w.heap.size w w' := by
  have hmf : ∀ (fn : Fn) (first cap : Array Value) (w : World), (Instr.makeFunc fn first cap).run Tryf.prog w = .ok (.func fn first cap) w := fun _ _ _ _ => rfl
  have mE : ∀ (v : Int) (w : World), (Go.method 236 26 (.int .i64 v) "Error").run Tryf.prog w = .ok (65, .int .i64 v) w := fun v w => by kernel_rfl
  go_enter_defers Tryf.func21, Tryf.ntmps21
  go_wp2_with (go_at_call 65; refine (errno12 _).mono ?_; rintro e w' ⟨rfl, rfl⟩)
  refine leaves_cons (f := 28) (args := #[.pointer (some ⟨w.heap.size, 0, none⟩)]) (by simp) (by simp [go_sem]) ?_
  refine (idle_words ⟨w.heap.size, 0, none⟩ _).mono ?_
  rintro e u' w'' ⟨rfl, rfl, rfl⟩
  simp [Leaves, settle, results, Tryf.results21, go_sem]
  exact (Below.refl _ _).alloc (Nat.le_refl _) _
theorem own_base {w : World} {base n : Nat} {e : TypeId} {v : Value} {xs : List Value} (h : w.ownsRow base e 1 v n xs) : ∀ k, v.ownBlock = some k → base ≤ k := by
  intro k hk
  rcases h.2 with ⟨rfl, _⟩ | ⟨g, cap, cur, rfl, hb, _⟩
  · simp [Value.ownBlock] at hk
  · simp [Value.ownBlock] at hk; omega
/-- A row of bytes that the call owns, and all below b as it was. -/
def Row (w0 : World) (b : Nat) (v : Value) (xs : List Value) (w : World) : Prop := w.ownsRow b 5 1 v xs.length xs ∧ Below b w0 w ∧ b ≤ w.heap.size
theorem Row.on {w0 w w' : World} {b s : Nat} {v v' : Value} {xs ys : List Value} (h : Row w0 b v xs w) (ho : w'.ownsRow b 5 1 v' (xs.length + s) (xs ++ ys)) (hs : ys.length = s) (hg : w.grownBy w' v.ownBlock) : Row w0 b v' (xs ++ ys) w' := by
  subst hs
  refine ⟨by rw [List.length_append]; exact ho, h.2.1.grown hg h.2.2 (fun k hk => own_base h.1 k hk), Nat.le_trans h.2.2 hg.size⟩
set_option maxRecDepth 100000 in
theorem appendInt7 (v : Value) (xs : List Value) (b : Nat) (w0 w : World) (h : Row w0 b v xs w) (hn : xs.length ≤ 1000) :
    Calls Tryf.prog 19 #[v, .int .i64 7, .int .i64 10] w fun e w' => ∃ v', e = .returned v' ∧ Row w0 b v' (xs ++ [.int .u8 55]) w' := by
  obtain ⟨i0, hi, hz0, hz1, hz2⟩ := info_parts u8_info
  have HI := Lib.hid hi
  have HZ := Lib.hid (And.intro hz0 (And.intro hz1 hz2))
  have H := Lib.hid h
  clear hi hz0 hz1 hz2 h
  go_enter Tryf.func19, Tryf.ntmps19
  go_wp2_with (first
    | (go_at_call 37; refine (small7 _).mono ?_; rintro e w' ⟨rfl, rfl⟩)
    | (refine Lib.wpList_append_own_string _ rfl (.tmp 13) (.tmp 16) 52 9 rfl b 5 i0 Tryf.underlying52 Tryf.underlying9 HI.out HZ.out.1 HZ.out.2.1 HZ.out.2.2 v xs.length xs rfl H.out.1 ⟨#[55]⟩ rfl (by simp [ByteArray.size]; unfold maxLen; omega) (by simp [ByteArray.size]; omega) H.out.2.2 ?_
       intro v' w' ho hg _)
    | go_in)
  go_ret
  exact ⟨v', rfl, H.out.on ho rfl hg⟩
theorem wp_str {ops : Array Oper} {rest : List Oper} {o : Oper} {a : Act} {Q : Exit → Act → World → Prop} (hgd : o.guard = none) (sl x : Operand)
    (ho : o.op = .call { callee := .builtin .append, args := #[sl, x], argTypes := #[52, 9] }) {w0 w : World} {b : Nat} {v : Value} {xs : List Value} (R : Row w0 b v xs w)
    (hs : a.eval sl = v) (s : ByteArray) (hx : a.eval x = .string s) (hn : xs.length + s.size ≤ 1000)
    (h : ∀ v' w', Row w0 b v' (xs ++ Lib.strCells s) w' → wpList Tryf.prog ops Q rest (a.put o.dst v') w') : wpList Tryf.prog ops Q (o :: rest) a w := by
  obtain ⟨i0, hi, hz0, hz1, hz2⟩ := info_parts u8_info
  exact Lib.wpList_append_own_string _ hgd sl x 52 9 ho b 5 i0 Tryf.underlying52 Tryf.underlying9 hi hz0 hz1 hz2 v xs.length xs hs R.1 s hx (by unfold maxLen; omega) (by omega) R.2.2
    fun v' w' ho' hg' _ => h v' w' (R.on ho' (Lib.strCells_length s) hg')
theorem wp_byte {ops : Array Oper} {rest : List Oper} {o : Oper} {a : Act} {Q : Exit → Act → World → Prop} (hgd : o.guard = none) (sl x : Operand)
    (ho : o.op = .call { callee := .builtin .append, args := #[sl, x], argTypes := #[52, 52] }) {w0 w : World} {b : Nat} {v : Value} {xs : List Value} (R : Row w0 b v xs w)
    (hs : a.eval sl = v) (g : Nat) (u : Value) (hx : a.eval x = .slice (some ⟨g, 0, none⟩) 1 1) (hc : w.cell? ⟨g, 0, none⟩ = some u) (hu : u.oneCell' = true) (hn : xs.length ≤ 1000)
    (h : ∀ v' w', Row w0 b v' (xs ++ [u]) w' → wpList Tryf.prog ops Q rest (a.put o.dst v') w') : wpList Tryf.prog ops Q (o :: rest) a w := by
  obtain ⟨i0, hi, hz0, hz1, hz2⟩ := info_parts u8_info
  refine wpList_append_own _ hgd sl x 52 ho b 5 i0 (.int .u8 0) 1 1 Tryf.underlying52 hi hz0 hz1 hz2 rfl (by decide) v xs.length xs hs R.1 ⟨g, 0, none⟩ 1 1 [u] hx rfl ?_ ?_ (by unfold maxLen; omega) (by omega) R.2.2
    fun v' w' ho' hg' _ => h v' w' (R.on ho' rfl hg')
  · intro j y hj
    cases j with
    | zero => simp at hj; subst hj; simpa [Addr.add] using hc
    | succ j => simp at hj
  · intro y hy; simp at hy; subst hy; exact hu
theorem Row.alloc {w0 w : World} {b : Nat} {v : Value} {xs : List Value} (h : Row w0 b v xs w) (o : Obj) : Row w0 b v xs (w.alloc o) :=
  ⟨h.1.alloc o, h.2.1.alloc h.2.2 o, by have := h.2.2; simp; omega⟩
theorem Row.keep {w0 w w' : World} {b : Nat} {v : Value} {xs : List Value} (h : Row w0 b v xs w) (hb : Below w.heap.size w w') : Row w0 b v xs w' :=
  ⟨h.1.kept (row := none) ⟨hb.os, hb.tape, hb.output, hb.size, fun k hk _ => hb.block k hk⟩ (by
    rcases h.1.2 with ⟨rfl, _⟩ | ⟨g, cap, cur, rfl, _⟩
    · exact .inl rfl
    · exact .inr (by simp [Value.ownBlock])), h.2.1.trans (hb.mono h.2.2), Nat.le_trans h.2.2 hb.size⟩
set_option maxRecDepth 100000 in
set_option maxHeartbeats 4000000 in
theorem error12 (g : Nat) (w : World) (hs : 1 < w.heap.size) (hg : w.cell? ⟨1, 0, none⟩ = some theErr) (hC : IsC w g (stg 0) 7 (.iface 26 (.int .i64 12))) :
    Calls Tryf.prog 12 #[.pointer (some ⟨g, 0, none⟩)] w fun e w' => e = .returned (.string ⟨#[108, 105, 110, 107, 64, 55, 58, 32, 101, 114, 114, 111, 114, 32, 49, 50]⟩) ∧ Below w.heap.size w w' := by
  have HC := Lib.hid hC
  have HG := Lib.hid hg
  have R0 : Row w w.heap.size (.slice none 0 0) [] w := ⟨World.ownsRow_nil _ _ _ _, Below.refl _ _, Nat.le_refl _⟩
  have c0 := hC.cellv (i := 0) (v := .string (stg 0)) rfl
  clear hC hg
  have hst : stg 0 = ⟨#[108, 105, 110, 107]⟩ := rfl
  rw [hst] at c0
  clear hst
  go_enter Tryf.func12, Tryf.ntmps12
  go_wp2_with fail
  refine wp_loop_rounds 1 ?_
  rw [rounds_succ]
  have HS := Lib.hid hs
  clear hs
  go_wp2_with (first
    | (refine wp_str rfl (.tmp 7) (.tmp 11) rfl R0 rfl ⟨#[108, 105, 110, 107]⟩ rfl (by decide) ?_; intro v1 w1 R1; clear c0 R0)
    | (refine wp_byte rfl (.tmp 13) (.tmp 14) rfl (R1.alloc (.cells #[.int .u8 64] 5)) rfl w1.heap.size (.int .u8 64) rfl (by simp) rfl (by decide) ?_; intro v2 w2 R2; have c1 := (Has.keep HC.out R2.2.1 (Has.lt HC.out)).cellv (i := 1) (v := .int .i64 7) rfl; clear R1)
    | (go_at_call 19; refine (appendInt7 v2 _ _ _ _ R2 (by decide)).mono ?_; rintro e w3 ⟨v3, rfl, R3⟩; clear c1 R2)
    | (refine wp_str rfl (.tmp 22) (.const (.string ⟨#[58, 32]⟩)) rfl R3 rfl ⟨#[58, 32]⟩ rfl (by decide) ?_; intro v4 w4 R4; have c2 := (Has.keep HC.out R4.2.1 (Has.lt HC.out)).cellv (i := 2) (v := .iface 26 (.int .i64 12)) rfl; clear R3)
    | (go_at_call 20; refine (itself_num 12 _ (Nat.lt_of_lt_of_le HS.out R4.2.1.size) ((R4.2.1.cell (p := ⟨1, 0, none⟩) HS.out).trans HG.out)).mono ?_; rintro e w5 ⟨rfl, hb5⟩; have R5 := R4.keep hb5; have c2 := (Has.keep HC.out R5.2.1 (Has.lt HC.out)).cellv (i := 2) (v := .iface 26 (.int .i64 12)) rfl; clear R4 hb5)
    | (go_at_call 21; refine (words12 _).mono ?_; rintro e w6 ⟨rfl, hb6⟩; have R6 := R5.keep hb6; clear R5 hb6)
    | (refine wp_str rfl (.tmp 31) (.tmp 36) rfl R6 rfl err12 rfl (by decide) ?_; intro v7 w7 R7; clear R6))
  have hxs : [] ++ Lib.strCells ⟨#[108, 105, 110, 107]⟩ ++ [Value.int .u8 64] ++ [Value.int .u8 55] ++ Lib.strCells ⟨#[58, 32]⟩ ++ Lib.strCells err12
      = ([108, 105, 110, 107, 64, 55, 58, 32, 101, 114, 114, 111, 114, 32, 49, 50] : List Int).map (Value.int .u8) := rfl
  rw [hxs] at R7
  obtain ⟨gg, cap, cur, hv, _, _, _, _, _, _⟩ := (R7.1.2).resolve_left (by rintro ⟨_, h⟩; simp at h)
  have hv' : v7 = .slice (some ⟨gg, 0, none⟩) 16 cap := hv
  clear hv
  subst hv'
  have hcv : (loadCells ⟨gg, 0, none⟩ 16).run Tryf.prog w7 = .ok (([108, 105, 110, 107, 64, 55, 58, 32, 101, 114, 114, 111, 114, 32, 49, 50] : List Int).map (Value.int .u8)).toArray w7 :=
    run_loadCells_list (P := Tryf.prog) w7 ⟨gg, 0, none⟩ _ (R7.1.cells (g := gg) rfl)
  have hbs := (run_convert_bytes_string (P := Tryf.prog) w7 52 9 5 (some ⟨gg, 0, none⟩) 16 cap Tryf.underlying52 Tryf.underlying5 Tryf.underlying9).trans (run_bytesToString w7 _ 16 cap _ hcv)
  have hB := Lib.hid R7.2.1
  have hfin : (([108, 105, 110, 107, 64, 55, 58, 32, 101, 114, 114, 111, 114, 32, 49, 50] : List Int).foldl (fun r n => r.push (UInt8.ofNat n.toNat)) ByteArray.empty) = ⟨#[108, 105, 110, 107, 64, 55, 58, 32, 101, 114, 114, 111, 114, 32, 49, 50]⟩ := rfl
  rw [hfin] at hbs
  clear hcv hfin R7 hxs c2 HC HG HS
  rw [hbs]
  clear hbs
  go_wp2_with fail
  go_ret
  exact ⟨rfl, hB.out⟩
end Go.Proofs.YtgaphplndpdhaaaFmt
