/- Contract: num.PutBytes: what was there, how many bytes, and they, in new memory. Condition: fewer than 2^45 bytes. -/
import Derived.Test.YtgaphplndpdhaaaPut
namespace Go.Proofs.Ytgaphplndpdhaaa
open Go.RowKit
set_option maxHeartbeats 1000000 in
theorem putBytes_any (x : List (BitVec 8)) (q : Option Addr) (c : Nat) (y : List (BitVec 8)) (p : Option Addr) (d : Nat) (w : World) (hs : Sees w w.heap.size q (x.map u8v)) (hq : q = none → c = 0) (hl : x.length ≤ 35184372088832)
    (hy : Sees w w.heap.size p (y.map u8v)) (hp : p = none → d = 0) (hyl : y.length ≤ 35184372088832) :
    Calls Try.prog 17 #[.slice q x.length c, .slice p y.length d] w (Gives w (x ++ digs y.length ++ y)) := by
  have hd := digs_len10 y.length (by omega)
  have h1 := size_any y.length w (by omega)
  have h2 := withRoom_any x q c ((digs y.length).length + y.length) w hs hq (by omega)
  have k1 : (((digs y.length).length + y.length : Nat) : Int) = ((digs y.length).length : Int) + (y.length : Int) := by omega
  have k2 : IntKind.u64.wrap (y.length : Int) = (y.length : Int) := wraps_u64 _ (by omega) (by omega)
  rw [k1] at h2
  have H3 : Hid (∀ (s : Value) (w1 : World), w1.ownsRow w.heap.size 5 1 s x.length (x.map u8v) → Below w.heap.size w w1 → Calls Try.prog 21 #[s, .int .u64 (y.length : Int)] w1 (Wrote w.heap.size w1 (x.length + (digs y.length).length) (x.map u8v ++ (digs y.length).map u8v))) := Lib.hid (fun s w1 ho hb => write_any y.length w.heap.size x.length _ s w1 (by omega) ho hb.size (by omega))
  have HE : Hid (x.map u8v ++ (digs y.length).map u8v ++ y.map u8v = (x ++ digs y.length ++ y).map u8v) := Lib.hid (by rw [List.map_append, List.map_append])
  have H1 := Lib.hid h1
  have H2 := Lib.hid h2
  have HY := Lib.hid hy
  have HP := Lib.hid hp
  clear h1 h2 hs hq k1 hy hp
  go_enter Try.func17, Try.ntmps17
  go_wp2_with fail
  refine H1.out.mono ?_
  rintro e w1 ⟨rfl, rfl⟩
  go_wp2_with fail
  refine H2.out.mono ?_
  rintro e w1 ⟨s, rfl, ho, hb⟩
  have H4 := Lib.hid (H3.out s w1 ho hb)
  have HB := Lib.hid hb
  clear ho hb H1 H2
  go_wp2_with fail
  refine H4.out.mono ?_
  rintro e w2 ⟨s2, rfl, ho, hb⟩
  have HO := Lib.hid ho
  have HB2 := Lib.hid (HB.out.trans hb)
  have HS2 := Lib.hid (HY.out.keep HB2.out)
  clear ho hb H4 H3
  go_wp2_with (at_builtin; refine wpList_append_sees rfl _ _ rfl w.heap.size _ _ _ rfl HO.out p y d w.heap.size rfl HP.out HS2.out (by omega) HB2.out.size ?_; intro v3 w3 h1 h2; have H5 := Lib.hid h1; have HB3 := Lib.hid (HB2.out.trans h2); clear h1 h2)
  go_ret
  refine ⟨v3, rfl, Bs.own (base := w.heap.size) (n := x.length + (digs y.length).length + y.length) ?_, HB3.out⟩
  have h := H5.out
  rw [HE.out] at h
  exact h
end Go.Proofs.Ytgaphplndpdhaaa
