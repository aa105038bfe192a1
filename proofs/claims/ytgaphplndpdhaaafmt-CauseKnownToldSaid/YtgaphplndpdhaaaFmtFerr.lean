/- Contracts: Errno.Error of 14 and 1, cause.words at a number, a *fmt.wrapError, nil; strconv.AppendInt of 1, 3, -2; (*Cause).Error of what CauseKnown asks (written by gen_ferr.py). Conditions: the two variables as laid; the blocks known whole. -/
import Derived.Test.YtgaphplndpdhaaaFmtErr
import Derived.Test.YtgaphplndpdhaaaFmtFout
namespace Go.Proofs.YtgaphplndpdhaaaFmt
open Go.RowKit
set_option maxRecDepth 100000 in
theorem small1 (w : World) : Calls Tryf.prog 37 #[.int .i64 1] w fun e w' => e = .returned (.string ⟨#[49]⟩) ∧ w' = w := by
  go_enter Tryf.func37, Tryf.ntmps37
  go_wp2
  go_ret
  exact ⟨rfl, rfl⟩
set_option maxRecDepth 100000 in
theorem small2 (w : World) : Calls Tryf.prog 37 #[.int .i64 2] w fun e w' => e = .returned (.string ⟨#[50]⟩) ∧ w' = w := by
  go_enter Tryf.func37, Tryf.ntmps37
  go_wp2
  go_ret
  exact ⟨rfl, rfl⟩
set_option maxRecDepth 100000 in
theorem small3 (w : World) : Calls Tryf.prog 37 #[.int .i64 3] w fun e w' => e = .returned (.string ⟨#[51]⟩) ∧ w' = w := by
  go_enter Tryf.func37, Tryf.ntmps37
  go_wp2
  go_ret
  exact ⟨rfl, rfl⟩
set_option maxRecDepth 100000 in
theorem small14 (w : World) : Calls Tryf.prog 37 #[.int .i64 14] w fun e w' => e = .returned (.string ⟨#[49, 52]⟩) ∧ w' = w := by
  go_enter Tryf.func37, Tryf.ntmps37
  go_wp2
  go_ret
  exact ⟨rfl, rfl⟩
def err14 : ByteArray := ⟨#[101, 114, 114, 111, 114, 32, 49, 52]⟩
theorem errno14 (w : World) : Calls Tryf.prog 65 #[.int .i64 14] w fun e w' => e = .returned (.string err14) ∧ w' = w := by
  go_enter Tryf.func65, Tryf.ntmps65
  go_wp2_with (first
    | (go_at_call 37; refine (small14 _).mono ?_; rintro e w' ⟨rfl, rfl⟩)
    | go_in)
  go_ret
  exact ⟨rfl, rfl⟩
theorem words14 (w : World) : Calls Tryf.prog 21 #[.iface 26 (.int .i64 14)] w fun e w' => e = .returned (.string err14) ∧ Below w.heap.size w w' := by
  have hmf : ∀ (fn : Fn) (first cap : Array Value) (w : World), (Instr.makeFunc fn first cap).run Tryf.prog w = .ok (.func fn first cap) w := fun _ _ _ _ => rfl
  have mE : ∀ (v : Int) (w : World), (Go.method 236 26 (.int .i64 v) "Error").run Tryf.prog w = .ok (65, .int .i64 v) w := fun v w => by kernel_rfl
  go_enter_defers Tryf.func21, Tryf.ntmps21
  go_wp2_with (go_at_call 65; refine (errno14 _).mono ?_; rintro e w' ⟨rfl, rfl⟩)
  refine leaves_cons (f := 28) (args := #[.pointer (some ⟨w.heap.size, 0, none⟩)]) (by simp) (by simp [go_sem]) ?_
  refine (idle_words ⟨w.heap.size, 0, none⟩ _).mono ?_
  rintro e u' w'' ⟨rfl, rfl, rfl⟩
  simp [Leaves, settle, results, Tryf.results21, go_sem]
  exact (Below.refl _ _).alloc (Nat.le_refl _) _
def err1 : ByteArray := ⟨#[101, 114, 114, 111, 114, 32, 49]⟩
theorem errno1 (w : World) : Calls Tryf.prog 65 #[.int .i64 1] w fun e w' => e = .returned (.string err1) ∧ w' = w := by
  go_enter Tryf.func65, Tryf.ntmps65
  go_wp2_with (first
    | (go_at_call 37; refine (small1 _).mono ?_; rintro e w' ⟨rfl, rfl⟩)
    | go_in)
  go_ret
  exact ⟨rfl, rfl⟩
theorem words1 (w : World) : Calls Tryf.prog 21 #[.iface 26 (.int .i64 1)] w fun e w' => e = .returned (.string err1) ∧ Below w.heap.size w w' := by
  have hmf : ∀ (fn : Fn) (first cap : Array Value) (w : World), (Instr.makeFunc fn first cap).run Tryf.prog w = .ok (.func fn first cap) w := fun _ _ _ _ => rfl
  have mE : ∀ (v : Int) (w : World), (Go.method 236 26 (.int .i64 v) "Error").run Tryf.prog w = .ok (65, .int .i64 v) w := fun v w => by kernel_rfl
  go_enter_defers Tryf.func21, Tryf.ntmps21
  go_wp2_with (go_at_call 65; refine (errno1 _).mono ?_; rintro e w' ⟨rfl, rfl⟩)
  refine leaves_cons (f := 28) (args := #[.pointer (some ⟨w.heap.size, 0, none⟩)]) (by simp) (by simp [go_sem]) ?_
  refine (idle_words ⟨w.heap.size, 0, none⟩ _).mono ?_
  rintro e u' w'' ⟨rfl, rfl, rfl⟩
  simp [Leaves, settle, results, Tryf.results21, go_sem]
  exact (Below.refl _ _).alloc (Nat.le_refl _) _
theorem words_wrap (gw : Nat) (tx : ByteArray) (e : Value) (w : World) (hW : IsW w gw tx e) : Calls Tryf.prog 21 #[ofW gw] w fun e w' => e = .returned (.string tx) ∧ Below w.heap.size w w' := by
  have hmf : ∀ (fn : Fn) (first cap : Array Value) (w : World), (Instr.makeFunc fn first cap).run Tryf.prog w = .ok (.func fn first cap) w := fun _ _ _ _ => rfl
  have mE : ∀ (v : Value) (w : World), (Go.method 236 43 v "Error").run Tryf.prog w = .ok (70, v) w := fun v w => by kernel_rfl
  have hE := Lib.hid (errorW_any gw tx e _ (hW.alloc (.cells #[.string ByteArray.empty] 9)))
  unfold ofW
  clear hW
  go_enter_defers Tryf.func21, Tryf.ntmps21
  go_wp2_with (go_at_call 70; refine hE.out.mono ?_; rintro e w' ⟨rfl, rfl⟩)
  refine leaves_cons (f := 28) (args := #[.pointer (some ⟨w.heap.size, 0, none⟩)]) (by simp) (by simp [go_sem]) ?_
  refine (idle_words ⟨w.heap.size, 0, none⟩ _).mono ?_
  rintro e u' w'' ⟨rfl, rfl, rfl⟩
  simp [Leaves, settle, results, Tryf.results21, go_sem]
  exact (Below.refl _ _).alloc (Nat.le_refl _) _
theorem words_nil (w : World) : Calls Tryf.prog 21 #[.nilIface] w fun e w' => e = .returned (.string ⟨#[111, 107]⟩) ∧ Below w.heap.size w w' := by
  go_enter_defers Tryf.func21, Tryf.ntmps21
  go_wp2_with fail
  simp [bodyPostD, Leaves, results, Tryf.results21, go_sem]
  exact (Below.refl _ _).alloc (Nat.le_refl _) _
set_option maxRecDepth 100000 in
theorem appendInt1 (v : Value) (xs : List Value) (b : Nat) (w0 w : World) (h : Row w0 b v xs w) (hn : xs.length ≤ 1000) :
    Calls Tryf.prog 19 #[v, .int .i64 1, .int .i64 10] w fun e w' => ∃ v', e = .returned v' ∧ Row w0 b v' (xs ++ [.int .u8 49]) w' := by
  obtain ⟨i0, hi, hz0, hz1, hz2⟩ := info_parts u8_info
  have HI := Lib.hid hi
  have HZ := Lib.hid (And.intro hz0 (And.intro hz1 hz2))
  have H := Lib.hid h
  clear hi hz0 hz1 hz2 h
  go_enter Tryf.func19, Tryf.ntmps19
  go_wp2_with (first
    | (go_at_call 37; refine (small1 _).mono ?_; rintro e w' ⟨rfl, rfl⟩)
    | (refine Lib.wpList_append_own_string _ rfl (.tmp 13) (.tmp 16) 52 9 rfl b 5 i0 Tryf.underlying52 Tryf.underlying9 HI.out HZ.out.1 HZ.out.2.1 HZ.out.2.2 v xs.length xs rfl H.out.1 ⟨#[49]⟩ rfl (by simp [ByteArray.size]; unfold maxLen; omega) (by simp [ByteArray.size]; omega) H.out.2.2 ?_
       intro v' w' ho hg _)
    | go_in)
  go_ret
  exact ⟨v', rfl, H.out.on ho rfl hg⟩
set_option maxRecDepth 100000 in
theorem appendInt3 (v : Value) (xs : List Value) (b : Nat) (w0 w : World) (h : Row w0 b v xs w) (hn : xs.length ≤ 1000) :
    Calls Tryf.prog 19 #[v, .int .i64 3, .int .i64 10] w fun e w' => ∃ v', e = .returned v' ∧ Row w0 b v' (xs ++ [.int .u8 51]) w' := by
  obtain ⟨i0, hi, hz0, hz1, hz2⟩ := info_parts u8_info
  have HI := Lib.hid hi
  have HZ := Lib.hid (And.intro hz0 (And.intro hz1 hz2))
  have H := Lib.hid h
  clear hi hz0 hz1 hz2 h
  go_enter Tryf.func19, Tryf.ntmps19
  go_wp2_with (first
    | (go_at_call 37; refine (small3 _).mono ?_; rintro e w' ⟨rfl, rfl⟩)
    | (refine Lib.wpList_append_own_string _ rfl (.tmp 13) (.tmp 16) 52 9 rfl b 5 i0 Tryf.underlying52 Tryf.underlying9 HI.out HZ.out.1 HZ.out.2.1 HZ.out.2.2 v xs.length xs rfl H.out.1 ⟨#[51]⟩ rfl (by simp [ByteArray.size]; unfold maxLen; omega) (by simp [ByteArray.size]; omega) H.out.2.2 ?_
       intro v' w' ho hg _)
    | go_in)
  go_ret
  exact ⟨v', rfl, H.out.on ho rfl hg⟩
set_option maxRecDepth 100000 in
set_option maxHeartbeats 2000000 in
theorem appendIntM2 (v : Value) (xs : List Value) (b : Nat) (w0 w : World) (h : Row w0 b v xs w) (hn : xs.length ≤ 900) :
    Calls Tryf.prog 19 #[v, .int .i64 (-2), .int .i64 10] w fun e w' => ∃ v', e = .returned v' ∧ Row w0 b v' (xs ++ [.int .u8 45] ++ Lib.strCells ⟨#[50]⟩) w' := by
  have H := Lib.hid h
  clear h
  have hn' := Lib.hid hn
  clear hn
  have e2 : IntKind.u64.wrap (-2) = 18446744073709551614 := by decide
  have e3 : IntKind.u64.wrap (-18446744073709551614) = 2 := by decide
  go_enter Tryf.func19, Tryf.ntmps19
  go_wp2_with (first
    | (go_at_call 37; refine (small2 _).mono ?_; rintro e w' ⟨rfl, rfl⟩)
    | (refine wp_byte rfl (.tmp 12) (.tmp 13) rfl (H.out.alloc (.cells #[.int .u8 45] 5)) rfl w.heap.size (.int .u8 45) rfl (by simp) rfl (by have := hn'.out; omega) ?_; intro v1 w1 R1)
    | (refine wp_str rfl (.tmp 13) (.tmp 16) rfl R1 rfl ⟨#[50]⟩ rfl (by have := hn'.out; simp [ByteArray.size]; omega) ?_; intro v2 w2 R2)
    | go_in)
  go_ret
  exact ⟨v2, rfl, R2⟩
set_option maxRecDepth 100000 in
set_option maxHeartbeats 4000000 in
theorem errorA (g : Nat) (w : World) (hs : 1 < w.heap.size) (hg : w.cell? ⟨1, 0, none⟩ = some theErr) (hC : IsC w g (stg 1) (1) (.iface 26 (.int .i64 14))) :
    Calls Tryf.prog 12 #[.pointer (some ⟨g, 0, none⟩)] w fun e w' => e = .returned (.string ⟨#[104, 101, 108, 108, 111, 64, 49, 58, 32, 101, 114, 114, 111, 114, 32, 49, 52]⟩) ∧ Below w.heap.size w w' := by
  have HC := Lib.hid hC
  have HG := Lib.hid hg
  have R0 : Row w w.heap.size (.slice none 0 0) [] w := ⟨World.ownsRow_nil _ _ _ _, Below.refl _ _, Nat.le_refl _⟩
  have c0 := hC.cellv (i := 0) (v := .string (stg 1)) rfl
  clear hC hg
  have hst : stg 1 = ⟨#[104, 101, 108, 108, 111]⟩ := rfl
  rw [hst] at c0
  clear hst
  go_enter Tryf.func12, Tryf.ntmps12
  go_wp2_with fail
  refine wp_loop_rounds 1 ?_
  rw [rounds_succ]
  have HS := Lib.hid hs
  clear hs
  go_wp2_with (first
    | (refine wp_str rfl (.tmp 7) (.tmp 11) rfl R0 rfl ⟨#[104, 101, 108, 108, 111]⟩ rfl (by decide) ?_; intro v1 w1 R1; clear c0 R0)
    | (refine wp_byte rfl (.tmp 13) (.tmp 14) rfl (R1.alloc (.cells #[.int .u8 64] 5)) rfl w1.heap.size (.int .u8 64) rfl (by simp) rfl (by decide) ?_; intro v2 w2 R2; have c1 := (Has.keep HC.out R2.2.1 (Has.lt HC.out)).cellv (i := 1) (v := .int .i64 (1)) rfl; clear R1)
    | (go_at_call 19; refine (appendInt1 v2 _ _ _ _ R2 (by decide)).mono ?_; rintro e w3 ⟨v3, rfl, R3⟩; clear c1 R2)
    | (refine wp_str rfl (.tmp 22) (.const (.string ⟨#[58, 32]⟩)) rfl R3 rfl ⟨#[58, 32]⟩ rfl (by decide) ?_; intro v4 w4 R4; have c2 := (Has.keep HC.out R4.2.1 (Has.lt HC.out)).cellv (i := 2) (v := .iface 26 (.int .i64 14)) rfl; clear R3)
    | (go_at_call 20; refine (itself_num 14 _ (Nat.lt_of_lt_of_le HS.out R4.2.1.size) ((R4.2.1.cell (p := ⟨1, 0, none⟩) HS.out).trans HG.out)).mono ?_; rintro e w5 ⟨rfl, hb5⟩; have R5 := R4.keep hb5; have c2 := (Has.keep HC.out R5.2.1 (Has.lt HC.out)).cellv (i := 2) (v := .iface 26 (.int .i64 14)) rfl; clear R4 hb5)
    | (go_at_call 21; refine (words14 _).mono ?_; rintro e w6 ⟨rfl, hb6⟩; have R6 := R5.keep hb6; clear R5 hb6)
    | (refine wp_str rfl (.tmp 31) (.tmp 36) rfl R6 rfl err14 rfl (by decide) ?_; intro v7 w7 R7; clear R6))
  have hxs : [] ++ Lib.strCells ⟨#[104, 101, 108, 108, 111]⟩ ++ [Value.int .u8 64] ++ [Value.int .u8 49] ++ Lib.strCells ⟨#[58, 32]⟩ ++ Lib.strCells err14
      = ([104, 101, 108, 108, 111, 64, 49, 58, 32, 101, 114, 114, 111, 114, 32, 49, 52] : List Int).map (Value.int .u8) := rfl
  rw [hxs] at R7
  obtain ⟨gg, cap, cur, hv, _, _, _, _, _, _⟩ := (R7.1.2).resolve_left (by rintro ⟨_, h⟩; simp at h)
  have hv' : v7 = .slice (some ⟨gg, 0, none⟩) 17 cap := hv
  clear hv
  subst hv'
  have hcv : (loadCells ⟨gg, 0, none⟩ 17).run Tryf.prog w7 = .ok (([104, 101, 108, 108, 111, 64, 49, 58, 32, 101, 114, 114, 111, 114, 32, 49, 52] : List Int).map (Value.int .u8)).toArray w7 :=
    run_loadCells_list (P := Tryf.prog) w7 ⟨gg, 0, none⟩ _ (R7.1.cells (g := gg) rfl)
  have hbs := (run_convert_bytes_string (P := Tryf.prog) w7 52 9 5 (some ⟨gg, 0, none⟩) 17 cap Tryf.underlying52 Tryf.underlying5 Tryf.underlying9).trans (run_bytesToString w7 _ 17 cap _ hcv)
  have hB := Lib.hid R7.2.1
  have hfin : (([104, 101, 108, 108, 111, 64, 49, 58, 32, 101, 114, 114, 111, 114, 32, 49, 52] : List Int).foldl (fun r n => r.push (UInt8.ofNat n.toNat)) ByteArray.empty) = ⟨#[104, 101, 108, 108, 111, 64, 49, 58, 32, 101, 114, 114, 111, 114, 32, 49, 52]⟩ := rfl
  rw [hfin] at hbs
  clear hcv hfin R7 hxs c2 HC HG HS
  rw [hbs]
  clear hbs
  go_wp2_with fail
  go_ret
  exact ⟨rfl, hB.out⟩
set_option maxRecDepth 100000 in
set_option maxHeartbeats 4000000 in
theorem errorC (g : Nat) (w : World) (hs : 1 < w.heap.size) (hg : w.cell? ⟨1, 0, none⟩ = some theErr) (hC : IsC w g (stg 5) (3) (.iface 26 (.int .i64 1))) :
    Calls Tryf.prog 12 #[.pointer (some ⟨g, 0, none⟩)] w fun e w' => e = .returned (.string ⟨#[99, 104, 101, 99, 107, 64, 51, 58, 32, 101, 114, 114, 111, 114, 32, 49]⟩) ∧ Below w.heap.size w w' := by
  have HC := Lib.hid hC
  have HG := Lib.hid hg
  have R0 : Row w w.heap.size (.slice none 0 0) [] w := ⟨World.ownsRow_nil _ _ _ _, Below.refl _ _, Nat.le_refl _⟩
  have c0 := hC.cellv (i := 0) (v := .string (stg 5)) rfl
  clear hC hg
  have hst : stg 5 = ⟨#[99, 104, 101, 99, 107]⟩ := rfl
  rw [hst] at c0
  clear hst
  go_enter Tryf.func12, Tryf.ntmps12
  go_wp2_with fail
  refine wp_loop_rounds 1 ?_
  rw [rounds_succ]
  have HS := Lib.hid hs
  clear hs
  go_wp2_with (first
    | (refine wp_str rfl (.tmp 7) (.tmp 11) rfl R0 rfl ⟨#[99, 104, 101, 99, 107]⟩ rfl (by decide) ?_; intro v1 w1 R1; clear c0 R0)
    | (refine wp_byte rfl (.tmp 13) (.tmp 14) rfl (R1.alloc (.cells #[.int .u8 64] 5)) rfl w1.heap.size (.int .u8 64) rfl (by simp) rfl (by decide) ?_; intro v2 w2 R2; have c1 := (Has.keep HC.out R2.2.1 (Has.lt HC.out)).cellv (i := 1) (v := .int .i64 (3)) rfl; clear R1)
    | (go_at_call 19; refine (appendInt3 v2 _ _ _ _ R2 (by decide)).mono ?_; rintro e w3 ⟨v3, rfl, R3⟩; clear c1 R2)
    | (refine wp_str rfl (.tmp 22) (.const (.string ⟨#[58, 32]⟩)) rfl R3 rfl ⟨#[58, 32]⟩ rfl (by decide) ?_; intro v4 w4 R4; have c2 := (Has.keep HC.out R4.2.1 (Has.lt HC.out)).cellv (i := 2) (v := .iface 26 (.int .i64 1)) rfl; clear R3)
    | (go_at_call 20; refine (itself_num 1 _ (Nat.lt_of_lt_of_le HS.out R4.2.1.size) ((R4.2.1.cell (p := ⟨1, 0, none⟩) HS.out).trans HG.out)).mono ?_; rintro e w5 ⟨rfl, hb5⟩; have R5 := R4.keep hb5; have c2 := (Has.keep HC.out R5.2.1 (Has.lt HC.out)).cellv (i := 2) (v := .iface 26 (.int .i64 1)) rfl; clear R4 hb5)
    | (go_at_call 21; refine (words1 _).mono ?_; rintro e w6 ⟨rfl, hb6⟩; have R6 := R5.keep hb6; clear R5 hb6)
    | (refine wp_str rfl (.tmp 31) (.tmp 36) rfl R6 rfl err1 rfl (by decide) ?_; intro v7 w7 R7; clear R6))
  have hxs : [] ++ Lib.strCells ⟨#[99, 104, 101, 99, 107]⟩ ++ [Value.int .u8 64] ++ [Value.int .u8 51] ++ Lib.strCells ⟨#[58, 32]⟩ ++ Lib.strCells err1
      = ([99, 104, 101, 99, 107, 64, 51, 58, 32, 101, 114, 114, 111, 114, 32, 49] : List Int).map (Value.int .u8) := rfl
  rw [hxs] at R7
  obtain ⟨gg, cap, cur, hv, _, _, _, _, _, _⟩ := (R7.1.2).resolve_left (by rintro ⟨_, h⟩; simp at h)
  have hv' : v7 = .slice (some ⟨gg, 0, none⟩) 16 cap := hv
  clear hv
  subst hv'
  have hcv : (loadCells ⟨gg, 0, none⟩ 16).run Tryf.prog w7 = .ok (([99, 104, 101, 99, 107, 64, 51, 58, 32, 101, 114, 114, 111, 114, 32, 49] : List Int).map (Value.int .u8)).toArray w7 :=
    run_loadCells_list (P := Tryf.prog) w7 ⟨gg, 0, none⟩ _ (R7.1.cells (g := gg) rfl)
  have hbs := (run_convert_bytes_string (P := Tryf.prog) w7 52 9 5 (some ⟨gg, 0, none⟩) 16 cap Tryf.underlying52 Tryf.underlying5 Tryf.underlying9).trans (run_bytesToString w7 _ 16 cap _ hcv)
  have hB := Lib.hid R7.2.1
  have hfin : (([99, 104, 101, 99, 107, 64, 51, 58, 32, 101, 114, 114, 111, 114, 32, 49] : List Int).foldl (fun r n => r.push (UInt8.ofNat n.toNat)) ByteArray.empty) = ⟨#[99, 104, 101, 99, 107, 64, 51, 58, 32, 101, 114, 114, 111, 114, 32, 49]⟩ := rfl
  rw [hfin] at hbs
  clear hcv hfin R7 hxs c2 HC HG HS
  rw [hbs]
  clear hbs
  go_wp2_with fail
  go_ret
  exact ⟨rfl, hB.out⟩
set_option maxRecDepth 100000 in
set_option maxHeartbeats 4000000 in
theorem errorE (g : Nat) (w : World) (hs : 1 < w.heap.size) (hg : w.cell? ⟨1, 0, none⟩ = some theErr) (hC : IsC w g (stg 0) (1) (.nilIface)) :
    Calls Tryf.prog 12 #[.pointer (some ⟨g, 0, none⟩)] w fun e w' => e = .returned (.string ⟨#[108, 105, 110, 107, 64, 49, 58, 32, 111, 107]⟩) ∧ Below w.heap.size w w' := by
  have HC := Lib.hid hC
  have HG := Lib.hid hg
  have R0 : Row w w.heap.size (.slice none 0 0) [] w := ⟨World.ownsRow_nil _ _ _ _, Below.refl _ _, Nat.le_refl _⟩
  have c0 := hC.cellv (i := 0) (v := .string (stg 0)) rfl
  clear hC hg
  have hst : stg 0 = ⟨#[108, 105, 110, 107]⟩ := rfl
  rw [hst] at c0
  clear hst
  go_enter Tryf.func12, Tryf.ntmps12
  go_wp2_with fail
  refine wp_loop_rounds 1 ?_
  rw [rounds_succ]
  have HS := Lib.hid hs
  clear hs
  go_wp2_with (first
    | (refine wp_str rfl (.tmp 7) (.tmp 11) rfl R0 rfl ⟨#[108, 105, 110, 107]⟩ rfl (by decide) ?_; intro v1 w1 R1; clear c0 R0)
    | (refine wp_byte rfl (.tmp 13) (.tmp 14) rfl (R1.alloc (.cells #[.int .u8 64] 5)) rfl w1.heap.size (.int .u8 64) rfl (by simp) rfl (by decide) ?_; intro v2 w2 R2; have c1 := (Has.keep HC.out R2.2.1 (Has.lt HC.out)).cellv (i := 1) (v := .int .i64 (1)) rfl; clear R1)
    | (go_at_call 19; refine (appendInt1 v2 _ _ _ _ R2 (by decide)).mono ?_; rintro e w3 ⟨v3, rfl, R3⟩; clear c1 R2)
    | (refine wp_str rfl (.tmp 22) (.const (.string ⟨#[58, 32]⟩)) rfl R3 rfl ⟨#[58, 32]⟩ rfl (by decide) ?_; intro v4 w4 R4; have c2 := (Has.keep HC.out R4.2.1 (Has.lt HC.out)).cellv (i := 2) (v := .nilIface) rfl; clear R3)
    | (go_at_call 20; refine (itself_nil _).mono ?_; rintro e w5 ⟨rfl, hb5⟩; have R5 := R4.keep hb5; have c2 := (Has.keep HC.out R5.2.1 (Has.lt HC.out)).cellv (i := 2) (v := .nilIface) rfl; clear R4 hb5)
    | (go_at_call 21; refine (words_nil _).mono ?_; rintro e w6 ⟨rfl, hb6⟩; have R6 := R5.keep hb6; clear R5 hb6)
    | (refine wp_str rfl (.tmp 31) (.tmp 36) rfl R6 rfl ⟨#[111, 107]⟩ rfl (by decide) ?_; intro v7 w7 R7; clear R6))
  have hxs : [] ++ Lib.strCells ⟨#[108, 105, 110, 107]⟩ ++ [Value.int .u8 64] ++ [Value.int .u8 49] ++ Lib.strCells ⟨#[58, 32]⟩ ++ Lib.strCells ⟨#[111, 107]⟩
      = ([108, 105, 110, 107, 64, 49, 58, 32, 111, 107] : List Int).map (Value.int .u8) := rfl
  rw [hxs] at R7
  obtain ⟨gg, cap, cur, hv, _, _, _, _, _, _⟩ := (R7.1.2).resolve_left (by rintro ⟨_, h⟩; simp at h)
  have hv' : v7 = .slice (some ⟨gg, 0, none⟩) 10 cap := hv
  clear hv
  subst hv'
  have hcv : (loadCells ⟨gg, 0, none⟩ 10).run Tryf.prog w7 = .ok (([108, 105, 110, 107, 64, 49, 58, 32, 111, 107] : List Int).map (Value.int .u8)).toArray w7 :=
    run_loadCells_list (P := Tryf.prog) w7 ⟨gg, 0, none⟩ _ (R7.1.cells (g := gg) rfl)
  have hbs := (run_convert_bytes_string (P := Tryf.prog) w7 52 9 5 (some ⟨gg, 0, none⟩) 10 cap Tryf.underlying52 Tryf.underlying5 Tryf.underlying9).trans (run_bytesToString w7 _ 10 cap _ hcv)
  have hB := Lib.hid R7.2.1
  have hfin : (([108, 105, 110, 107, 64, 49, 58, 32, 111, 107] : List Int).foldl (fun r n => r.push (UInt8.ofNat n.toNat)) ByteArray.empty) = ⟨#[108, 105, 110, 107, 64, 49, 58, 32, 111, 107]⟩ := rfl
  rw [hfin] at hbs
  clear hcv hfin R7 hxs c2 HC HG HS
  rw [hbs]
  clear hbs
  go_wp2_with fail
  go_ret
  exact ⟨rfl, hB.out⟩
def moreText : ByteArray := ⟨#[109, 111, 114, 101, 58, 32, 104, 101, 108, 108, 111, 64, 49, 58, 32, 101, 114, 114, 111, 114, 32, 49, 52]⟩
set_option maxRecDepth 100000 in
set_option maxHeartbeats 4000000 in
theorem errorB (g : Nat) (gw ga : Nat) (w : World) (hs : 1 < w.heap.size) (hg : w.cell? ⟨1, 0, none⟩ = some theErr) (hW : IsW w gw moreText (ofC ga)) (hC : IsC w g (stg 5) (-2) (.iface 43 (.pointer (some ⟨gw, 0, none⟩)))) :
    Calls Tryf.prog 12 #[.pointer (some ⟨g, 0, none⟩)] w fun e w' => e = .returned (.string ⟨#[99, 104, 101, 99, 107, 64, 45, 50, 58, 32, 109, 111, 114, 101, 58, 32, 104, 101, 108, 108, 111, 64, 49, 58, 32, 101, 114, 114, 111, 114, 32, 49, 52]⟩) ∧ Below w.heap.size w w' := by
  have HC := Lib.hid hC
  have HW := Lib.hid hW
  have HG := Lib.hid hg
  have R0 : Row w w.heap.size (.slice none 0 0) [] w := ⟨World.ownsRow_nil _ _ _ _, Below.refl _ _, Nat.le_refl _⟩
  have c0 := hC.cellv (i := 0) (v := .string (stg 5)) rfl
  clear hC hg hW
  have hst : stg 5 = ⟨#[99, 104, 101, 99, 107]⟩ := rfl
  rw [hst] at c0
  clear hst
  go_enter Tryf.func12, Tryf.ntmps12
  go_wp2_with fail
  refine wp_loop_rounds 1 ?_
  rw [rounds_succ]
  have HS := Lib.hid hs
  clear hs
  go_wp2_with (first
    | (refine wp_str rfl (.tmp 7) (.tmp 11) rfl R0 rfl ⟨#[99, 104, 101, 99, 107]⟩ rfl (by decide) ?_; intro v1 w1 R1; clear c0 R0)
    | (refine wp_byte rfl (.tmp 13) (.tmp 14) rfl (R1.alloc (.cells #[.int .u8 64] 5)) rfl w1.heap.size (.int .u8 64) rfl (by simp) rfl (by decide) ?_; intro v2 w2 R2; have c1 := (Has.keep HC.out R2.2.1 (Has.lt HC.out)).cellv (i := 1) (v := .int .i64 (-2)) rfl; clear R1)
    | (go_at_call 19; refine (appendIntM2 v2 _ _ _ _ R2 (by decide)).mono ?_; rintro e w3 ⟨v3, rfl, R3⟩; clear c1 R2)
    | (refine wp_str rfl (.tmp 22) (.const (.string ⟨#[58, 32]⟩)) rfl R3 rfl ⟨#[58, 32]⟩ rfl (by decide) ?_; intro v4 w4 R4; have c2 := (Has.keep HC.out R4.2.1 (Has.lt HC.out)).cellv (i := 2) (v := .iface 43 (.pointer (some ⟨gw, 0, none⟩))) rfl; clear R3)
    | (go_at_call 20; refine (itself_wrap gw moreText ga _ (Nat.lt_of_lt_of_le HS.out R4.2.1.size) ((R4.2.1.cell (p := ⟨1, 0, none⟩) HS.out).trans HG.out) (Has.keep HW.out R4.2.1 (Has.lt HW.out))).mono ?_; rintro e w5 ⟨rfl, hb5⟩; have R5 := R4.keep hb5; have c2 := (Has.keep HC.out R5.2.1 (Has.lt HC.out)).cellv (i := 2) (v := .iface 43 (.pointer (some ⟨gw, 0, none⟩))) rfl; clear R4 hb5)
    | (go_at_call 21; refine (words_wrap gw moreText (ofC ga) _ (Has.keep HW.out R5.2.1 (Has.lt HW.out))).mono ?_; rintro e w6 ⟨rfl, hb6⟩; have R6 := R5.keep hb6; clear R5 hb6)
    | (refine wp_str rfl (.tmp 31) (.tmp 36) rfl R6 rfl moreText rfl (by decide) ?_; intro v7 w7 R7; clear R6))
  have hxs : [] ++ Lib.strCells ⟨#[99, 104, 101, 99, 107]⟩ ++ [Value.int .u8 64] ++ [Value.int .u8 45] ++ Lib.strCells ⟨#[50]⟩ ++ Lib.strCells ⟨#[58, 32]⟩ ++ Lib.strCells moreText
      = ([99, 104, 101, 99, 107, 64, 45, 50, 58, 32, 109, 111, 114, 101, 58, 32, 104, 101, 108, 108, 111, 64, 49, 58, 32, 101, 114, 114, 111, 114, 32, 49, 52] : List Int).map (Value.int .u8) := rfl
  rw [hxs] at R7
  obtain ⟨gg, cap, cur, hv, _, _, _, _, _, _⟩ := (R7.1.2).resolve_left (by rintro ⟨_, h⟩; simp at h)
  have hv' : v7 = .slice (some ⟨gg, 0, none⟩) 33 cap := hv
  clear hv
  subst hv'
  have hcv : (loadCells ⟨gg, 0, none⟩ 33).run Tryf.prog w7 = .ok (([99, 104, 101, 99, 107, 64, 45, 50, 58, 32, 109, 111, 114, 101, 58, 32, 104, 101, 108, 108, 111, 64, 49, 58, 32, 101, 114, 114, 111, 114, 32, 49, 52] : List Int).map (Value.int .u8)).toArray w7 :=
    run_loadCells_list (P := Tryf.prog) w7 ⟨gg, 0, none⟩ _ (R7.1.cells (g := gg) rfl)
  have hbs := (run_convert_bytes_string (P := Tryf.prog) w7 52 9 5 (some ⟨gg, 0, none⟩) 33 cap Tryf.underlying52 Tryf.underlying5 Tryf.underlying9).trans (run_bytesToString w7 _ 33 cap _ hcv)
  have hB := Lib.hid R7.2.1
  have hfin : (([99, 104, 101, 99, 107, 64, 45, 50, 58, 32, 109, 111, 114, 101, 58, 32, 104, 101, 108, 108, 111, 64, 49, 58, 32, 101, 114, 114, 111, 114, 32, 49, 52] : List Int).foldl (fun r n => r.push (UInt8.ofNat n.toNat)) ByteArray.empty) = ⟨#[99, 104, 101, 99, 107, 64, 45, 50, 58, 32, 109, 111, 114, 101, 58, 32, 104, 101, 108, 108, 111, 64, 49, 58, 32, 101, 114, 114, 111, 114, 32, 49, 52]⟩ := rfl
  rw [hfin] at hbs
  clear hcv hfin R7 hxs c2 HC HG HS
  rw [hbs]
  clear hbs
  go_wp2_with fail
  go_ret
  exact ⟨rfl, hB.out⟩
end Go.Proofs.YtgaphplndpdhaaaFmt
