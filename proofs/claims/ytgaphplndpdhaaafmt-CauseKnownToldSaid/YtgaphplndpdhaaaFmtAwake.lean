/- Contract: awake of tallymanlaw2: it answers true. Conditions: the two variables as laid. -/
import Derived.Test.YtgaphplndpdhaaaFmtErr
import Derived.Test.YtgaphplndpdhaaaFmtEit
namespace Go.Proofs.YtgaphplndpdhaaaFmt
open Go.RowKit
/-- All below b as it was, one Cause known. -/
def St (w0 : World) (b g : Nat) (s : ByteArray) (n : Int) (e : Value) (w : World) : Prop := Below b w0 w ∧ IsC w g s n e ∧ b ≤ w.heap.size
theorem St.keep {w0 w w' : World} {b g : Nat} {s : ByteArray} {n : Int} {e : Value} (h : St w0 b g s n e w) (hb : Below w.heap.size w w') : St w0 b g s n e w' :=
  ⟨h.1.trans (hb.mono h.2.2), h.2.1.keep hb, Nat.le_trans h.2.2 hb.size⟩
theorem St.alloc {w0 w : World} {b g : Nat} {s : ByteArray} {n : Int} {e : Value} (h : St w0 b g s n e w) (o : Obj) : St w0 b g s n e (w.alloc o) :=
  ⟨h.1.alloc h.2.2 o, Has.alloc h.2.1 o, by have := h.2.2; simp; omega⟩
set_option maxRecDepth 100000 in
set_option maxHeartbeats 4000000 in
theorem awake_any (w : World) (a : Addr) (cap : Nat) (hL : Laid w a cap) :
    Calls Tryf.prog 4 #[] w fun e w' => e = .returned (.bool true) ∧ Below w.heap.size w w' := by
  have hI : Hid (Calls Tryf.prog 5 #[.string ⟨#[108, 105, 110, 107]⟩, .int .i64 7, .iface 26 (.int .i64 12)] w fun e w' => e = .returned (ofC w.heap.size) ∧ w' = w.alloc (.cells #[.string (stg 0), .int .i64 7, .iface 26 (.int .i64 12)] 33)) := Lib.hid (in_any 0 (by omega) 7 26 (.int .i64 12) w a cap hL)
  have hs := hL.size
  have keep : Hid (∀ w', Below w.heap.size w w' → Laid w' a cap) := Lib.hid fun w' hb => hL.keep hb
  have mE : ∀ (v : Value) (w : World), (Go.method 236 31 v "Error").run Tryf.prog w = .ok (12, v) w := fun v w => by kernel_rfl
  have S0 : St w w.heap.size w.heap.size (stg 0) 7 (.iface 26 (.int .i64 12)) (w.alloc (.cells #[.string (stg 0), .int .i64 7, .iface 26 (.int .i64 12)] 33)) :=
    ⟨(Below.refl _ _).alloc (Nat.le_refl _) _, Has.made' _ _ _ _ rfl, by simp⟩
  have HS := Lib.hid hs
  clear hL hs
  unfold ofC at hI
  go_enter Tryf.func4, Tryf.ntmps4
  go_wp2_with (first
    | (go_at_call 5; refine hI.out.mono ?_; rintro e w1 ⟨rfl, hw1⟩)
    | (go_at_call 12; refine (error12 w.heap.size _ (keep.out _ S0.1).size (keep.out _ S0.1).err S0.2.1).mono ?_; rintro e w2 ⟨rfl, hb⟩; have S2 := S0.keep hb; clear hb S0)
    | (go_at_call 11; refine (code_any w.heap.size (stg 0) 7 12 _ (keep.out _ S2.1).size (keep.out _ S2.1).err S2.2.1).mono ?_; rintro e w3 ⟨rfl, hb⟩; have S3 := S2.keep hb; clear hb S2)
    | (go_at_call 14; refine (eis_c1 w.heap.size w3.heap.size (stg 0) ⟨#[108, 105, 110, 107]⟩ 7 0 12 true (w3.alloc (.cells #[.string ⟨#[108, 105, 110, 107]⟩, .int .i64 0, .nilIface] 33)) (keep.out _ (S3.alloc (.cells #[.string ⟨#[108, 105, 110, 107]⟩, .int .i64 0, .nilIface] 33)).1).size (keep.out _ (S3.alloc (.cells #[.string ⟨#[108, 105, 110, 107]⟩, .int .i64 0, .nilIface] 33)).1).err (S3.alloc _).2.1 (Has.made' _ _ _ _ rfl) (Nat.ne_of_lt (Has.lt S3.2.1)) (by decide +kernel)).mono ?_; rintro e w4 ⟨rfl, hb⟩; have S4 := (S3.alloc (.cells #[.string ⟨#[108, 105, 110, 107]⟩, .int .i64 0, .nilIface] 33)).keep hb; clear hb S3)
    | (go_at_call 14; refine (eis_c1 w.heap.size w4.heap.size (stg 0) ⟨#[114, 101, 99, 111, 110]⟩ 7 0 12 false (w4.alloc (.cells #[.string ⟨#[114, 101, 99, 111, 110]⟩, .int .i64 0, .nilIface] 33)) (keep.out _ (S4.alloc (.cells #[.string ⟨#[114, 101, 99, 111, 110]⟩, .int .i64 0, .nilIface] 33)).1).size (keep.out _ (S4.alloc (.cells #[.string ⟨#[114, 101, 99, 111, 110]⟩, .int .i64 0, .nilIface] 33)).1).err (S4.alloc _).2.1 (Has.made' _ _ _ _ rfl) (Nat.ne_of_lt (Has.lt S4.2.1)) (by decide +kernel)).mono ?_; rintro e w5 ⟨rfl, hb⟩; have S5 := (S4.alloc (.cells #[.string ⟨#[114, 101, 99, 111, 110]⟩, .int .i64 0, .nilIface] 33)).keep hb; clear hb S4; have h0 := (keep.out _ S5.1).at0))
  go_ret
  exact ⟨rfl, S5.1⟩
end Go.Proofs.YtgaphplndpdhaaaFmt
