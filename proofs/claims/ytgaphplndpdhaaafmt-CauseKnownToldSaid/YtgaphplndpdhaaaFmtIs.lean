/- Contracts: (*Cause).Is, errors.Is at a chain of one or two *Cause over a number. Conditions: the two variables as laid; the blocks known whole. -/
import Derived.Test.YtgaphplndpdhaaaFmtOut
import Derived.Deep.QuietTactic
import Derived.BigQuiet
import Derived.Deep.DeepCutAuto
namespace Go.Proofs.YtgaphplndpdhaaaFmt
open Go.RowKit Go.Extern.Stop Go.Stop Go.Extern
set_option maxHeartbeats 1000000 in
theorem cis_num (g : Nat) (c : Int) (w : World) (hs : 1 < w.heap.size) (hg : w.cell? ⟨1, 0, none⟩ = some theErr) :
    Calls Tryf.prog 69 #[.pointer (some ⟨g, 0, none⟩), .iface 26 (.int .i64 c)] w fun e w' => e = .returned (.bool false) ∧ Below w.heap.size w w' := by
  have hO := Lib.hid (itself_num c w hs hg)
  clear hg
  go_enter Tryf.func69, Tryf.ntmps69
  go_wp2_with (go_at_call 20; with_reducible refine hO.out.mono ?_; rintro e w1 ⟨rfl, hb⟩)
  go_ret
  exact ⟨rfl, hb⟩
set_option maxHeartbeats 1000000 in
theorem cis_cause (g q : Nat) (s s2 : ByteArray) (n n2 : Int) (e : Value) (b : Bool) (w : World) (hs : 1 < w.heap.size) (hg : w.cell? ⟨1, 0, none⟩ = some theErr)
    (hC : IsC w g s n e) (hQ : IsC w q s2 n2 .nilIface) (hb : (s2.toList == s.toList) = b) :
    Calls Tryf.prog 69 #[.pointer (some ⟨g, 0, none⟩), ofC q] w fun e w' => e = .returned (.bool b) ∧ Below w.heap.size w w' := by
  have hO := Lib.hid (itself_cause q w hs hg)
  have HC := Lib.hid hC
  have HQ := Lib.hid hQ
  unfold ofC at *
  clear hg hC hQ
  go_enter Tryf.func69, Tryf.ntmps69
  go_upto_region 2 with (go_at_call 20; with_reducible refine hO.out.mono ?_; rintro e w1 ⟨rfl, hb1⟩)
  have c1 := (HC.out.keep hb1 HC.out.lt).cellv (i := 0) (v := .string s) rfl
  have c2 := (HQ.out.keep hb1 HQ.out.lt).cellv (i := 0) (v := .string s2) rfl
  have c3 := (HQ.out.keep hb1 HQ.out.lt).cellv (i := 2) (v := .nilIface) rfl
  have HB := Lib.hid hb1
  clear hb1
  cases b with
  | true =>
    go_wp2_with fail
    go_quiet (fail)
    go_wp2_with fail
    go_ret
    exact ⟨rfl, below_drewN HB.out _⟩
  | false =>
    go_wp2_with fail
    go_quiet (fail)
    go_wp2_with fail
    go_ret
    exact ⟨rfl, below_drewN HB.out _⟩
end Go.Proofs.YtgaphplndpdhaaaFmt
