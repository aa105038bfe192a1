/- Contracts: num.Put: what was there, and the number's bytes behind it, in new memory. Conditions: a number of 64 bits; fewer than 2^46 bytes. -/
import Derived.Test.YtgaphplndpdhaaaWrite
namespace Go.Proofs.Ytgaphplndpdhaaa
open Go.RowKit
set_option maxHeartbeats 1000000 in
theorem put_any (x : List (BitVec 8)) (q : Option Addr) (c v : Nat) (w : World) (hs : Sees w w.heap.size q (x.map u8v)) (hq : q = none → c = 0) (hl : x.length ≤ 70368744177664) (hv : v < 18446744073709551616) :
    Calls Try.prog 8 #[.slice q x.length c, .int .u64 (v : Int)] w (Gives w (x ++ digs v)) := by
  have hd := digs_len10 v hv
  have h1 := size_any v w hv
  have h2 := withRoom_any x q c (digs v).length w hs hq (by omega)
  have H3 : Hid (∀ (s : Value) (w1 : World), w1.ownsRow w.heap.size 5 1 s x.length (x.map u8v) → Below w.heap.size w w1 → Calls Try.prog 21 #[s, .int .u64 (v : Int)] w1 (Wrote w.heap.size w1 (x.length + (digs v).length) (x.map u8v ++ (digs v).map u8v))) := Lib.hid (fun s w1 ho hb => write_any v w.heap.size x.length _ s w1 hv ho hb.size (by omega))
  have H1 := Lib.hid h1
  have H2 := Lib.hid h2
  clear hd h1 h2 hs hq
  go_enter Try.func8, Try.ntmps8
  go_wp2_with fail
  refine H1.out.mono ?_
  rintro e w1 ⟨rfl, rfl⟩
  go_wp2_with fail
  refine H2.out.mono ?_
  rintro e w1 ⟨s, rfl, ho, hb⟩
  have H4 := Lib.hid (H3.out s w1 ho hb)
  have HB := Lib.hid hb
  clear ho hb H1 H2
  go_wp2_with fail
  refine H4.out.mono ?_
  rintro e w2 ⟨s2, rfl, ho, hb⟩
  have HO := Lib.hid ho
  have HB2 := Lib.hid (HB.out.trans hb)
  clear ho hb H4 H3
  go_wp2_with fail
  go_ret
  refine ⟨s2, rfl, Bs.own (base := w.heap.size) (n := x.length + (digs v).length) ?_, HB2.out⟩
  rw [List.map_append]
  exact HO.out
end Go.Proofs.Ytgaphplndpdhaaa
