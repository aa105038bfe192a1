/- The walk of the law RollApart: it returns true. No condition but that the arguments are of their types. -/
import Derived.Test.YtaeoaaajkcnbkaaAwake
import Derived.OpenShut
namespace Go.Proofs.Ytaeoaaajkcnbkaa
open Go.RowKit
theorem apart_plain (b : List (BitVec 8)) (k : Nat) (h : k < b.length) (x : BitVec 8) : ∃ z : Bool, (((rsum b : Nat) : Int) == ((rsum (b.set k x) : Nat) : Int)) = z ∧ (B (at8 b k) == B x) = z := by
  refine ⟨rsum b == rsum (b.set k x), ?_, ?_⟩
  · rw [Bool.eq_iff_iff, beq_iff_eq, beq_iff_eq]; omega
  · rw [rsum_one b k h x]
    have e : b[k] = at8 b k := by simp [at8, List.getD_eq_getElem?_getD, List.getElem?_eq_getElem h]
    rw [e, Bool.eq_iff_iff, beq_iff_eq, beq_iff_eq]
    exact ⟨fun h => B_inj h, fun h => by rw [h]⟩
theorem own_has {w : World} {base n : Nat} {v : Value} {x : List (BitVec 8)} (h : w.ownsRow base 5 1 v n (x.map u8v)) (hp : 0 < x.length) :
    ∃ g cap, ∃ cur : List Value, v = .slice (some ⟨g, 0, none⟩) x.length cap ∧ base ≤ g ∧ Has w g 5 cur ∧ x.length ≤ cap ∧ cur.take x.length = x.map u8v ∧ x.length ≤ cur.length := by
  have hn : x.length = n := by have := h.1; simpa using this
  subst hn
  rcases h.2 with ⟨rfl, h0⟩ | ⟨g, cap, cur, rfl, hb, hg, h1, h2, h3, h4⟩
  · omega
  · refine ⟨g, cap, cur.toList, rfl, hb, hg, h1, by simpa using h4, ?_⟩
    have : cur.toList.length = cap := by rw [Array.length_toList, h3]; omega
    omega
theorem put_sees {w : World} {g : Nat} {cur : List Value} {x : List (BitVec 8)} {k : Nat} (c : BitVec 8) (h : Has w g 5 (cur.set k (u8v c))) (ht : cur.take x.length = x.map u8v) :
    Sees w w.heap.size (some ⟨g, 0, none⟩) ((x.set k c).map u8v) := by
  have hs := (Sees.of_has h h.lt).head x.length
  rw [List.take_set, ht, ← List.map_set] at hs
  exact hs
theorem quick (b : List (BitVec 8)) (q : Option Addr) (c ti : Nat) (at' : Int) (w : World) (h : 64 < b.length ∨ at' < 0 ∨ (b.length : Int) ≤ at') :
    Calls Try.prog 7 #[.slice q b.length c, .int .i64 at', .int .u8 (ti : Int)] w fun e w' => e = .returned (.bool true) ∧ Below w.heap.size w w' := by
  have HA := Lib.hid (awake_any w)
  by_cases c1 : 64 < b.length
  · have k1 : (64 : Int) < (b.length : Int) := by omega
    clear h
    go_enter Try.func7, Try.ntmps7
    go_wp2_with fail
    refine HA.out.mono ?_
    rintro e w1 ⟨rfl, hb1⟩
    have HB := Lib.hid hb1
    clear hb1
    go_wp2_with fail
    go_ret
    exact ⟨rfl, HB.out⟩
  · by_cases c2 : at' < 0
    · have k1 : ¬ (64 : Int) < (b.length : Int) := by omega
      clear h
      go_enter Try.func7, Try.ntmps7
      go_wp2_with fail
      refine HA.out.mono ?_
      rintro e w1 ⟨rfl, hb1⟩
      have HB := Lib.hid hb1
      clear hb1
      go_wp2_with fail
      go_ret
      exact ⟨rfl, HB.out⟩
    · have k1 : ¬ (64 : Int) < (b.length : Int) := by omega
      have k2 : (b.length : Int) ≤ at' := by omega
      clear h
      go_enter Try.func7, Try.ntmps7
      go_wp2_with fail
      refine HA.out.mono ?_
      rintro e w1 ⟨rfl, hb1⟩
      have HB := Lib.hid hb1
      clear hb1
      go_wp2_with fail
      go_ret
      exact ⟨rfl, HB.out⟩
set_option maxHeartbeats 1000000 in
set_option maxRecDepth 100000 in
theorem apart_any (b : List (BitVec 8)) (q : Option Addr) (c ti : Nat) (at' : Int) (w : World) (hs : Sees w w.heap.size q (b.map u8v)) (hq : q = none → c = 0) (ht : ti < 256) :
    Calls Try.prog 7 #[.slice q b.length c, .int .i64 at', .int .u8 (ti : Int)] w fun e w' => e = .returned (.bool true) ∧ Below w.heap.size w w' := by
  by_cases hquick : 64 < b.length ∨ at' < 0 ∨ (b.length : Int) ≤ at'
  · exact quick b q c ti at' w hquick
  · obtain ⟨k, rfl⟩ := Int.eq_ofNat_of_zero_le (show 0 ≤ at' by omega)
    have hk : k < b.length := by omega
    have hbl : b.length ≤ 64 := by omega
    rw [B_ofNat ti ht]
    generalize BitVec.ofNat 8 ti = t at *
    obtain ⟨z, z1, z2⟩ := apart_plain b k hk t
    have hx := at8_of b k hk
    have HA := Lib.hid (awake_any w)
    have k1 : ¬ (64 : Int) < (b.length : Int) := by omega
    have k2 : ¬ (b.length : Int) ≤ (k : Int) := by omega
    have HS := Lib.hid hs
    have HQ := Lib.hid hq
    have HX := Lib.hid hx
    have HOf := Lib.hid (fun w1 h => of_any b q c w1 h (by omega))
    have HOf2 := Lib.hid (fun w1 p cap h => of_any (b.set k t) p cap w1 h (by rw [List.length_set]; omega))
    rw [List.length_set] at HOf2
    have hset : ∀ (x : List Value), x.length = b.length → (x.set k (u8v t)).length = b.length := fun x h => by rw [List.length_set, h]
    generalize rsum b = r1 at *
    generalize rsum (b.set k t) = r2 at *
    clear hquick hs hq hx ht hset
    go_enter Try.func7, Try.ntmps7
    go_wp2_with fail
    refine HA.out.mono ?_
    rintro e w1 ⟨rfl, hb1⟩
    have ho : (w1.alloc (.cells #[] 5)).ownsRow w1.heap.size 5 1 (.slice (some ⟨w1.heap.size, 0, none⟩) 0 0) 0 [] := World.ownsRow_made w1 #[] 0 (Nat.le_refl _) (by unfold maxLen; omega) (by simp)
    have HO := Lib.hid ho
    have hb2 : Below w.heap.size w (w1.alloc (.cells #[] 5)) := hb1.alloc hb1.size _
    have HSS : Hid (Sees (w1.alloc (.cells #[] 5)) w.heap.size q (b.map u8v)) := Lib.hid (HS.out.keep hb2)
    have HB1 : Hid (Below w1.heap.size w1 (w1.alloc (.cells #[] 5))) := Lib.hid ((Below.refl _ _).alloc (Nat.le_refl _) _)
    have HB := Lib.hid hb2
    have Hz := Lib.hid hb1.size
    clear hb1 hb2 ho
    go_upto_region 6 with (at_builtin; refine wpList_append_sees rfl _ _ rfl w1.heap.size _ 0 [] rfl HO.out q b c w.heap.size rfl HQ.out HSS.out (by omega) HB1.out.size ?_; intro v' w2 h1 h2; have H1 := Lib.hid h1; have HB2 := Lib.hid (HB.out.trans (h2.mono Hz.out)); clear h1 h2)
    have h1 := H1.out
    rw [Nat.zero_add, List.nil_append] at h1
    obtain ⟨g, cap, cur, rfl, hg, hh, hcap, htake, hlen⟩ := own_has h1 (by omega)
    obtain ⟨y, hy⟩ : ∃ y, cur[k]? = some y := ⟨_, List.getElem?_eq_getElem (by omega)⟩
    have cw := hh.cellv hy
    have fw := hh.free k
    have kb : k < b.length := hk
    have hput := hh.put k (u8v t)
    have hB3 : Below w.heap.size w (w2.setCell ⟨g, k, none⟩ (u8v t)) := HB2.out.setCell (by have := Hz.out; show w.heap.size ≤ g; omega) _
    have H3 := Lib.hid (HOf.out (w2.setCell ⟨g, k, none⟩ (u8v t)).drew ((HS.out.keep hB3.drew).more hB3.drew.size))
    have H4 := Lib.hid (HOf2.out (w2.setCell ⟨g, k, none⟩ (u8v t)).drew (some ⟨g, 0, none⟩) cap (put_sees t hput.drew htake))
    obtain ⟨p, rfl, _, hcell⟩ := (HS.out.keep hB3.drew) (by rw [List.length_map]; omega)
    have cx := hcell k _ HX.out
    have HB3 := Lib.hid hB3
    clear hy H1 h1 hg hh hcap htake hlen hput hB3 hcell HOf HOf2 HS HQ HX HA HSS HO HB HB2 HB1
    go_upto_region 7 with (fail)
    clear cw fw
    change Code.wp _ _ _ _ (w2.setCell ⟨g, k, none⟩ (u8v t))
    generalize w2.setCell ⟨g, k, none⟩ (u8v t) = w3 at *
    refine wp_region_still_lit (by kernel_rfl) (by kernel_rfl) ?_
    still_step
    still_call (calls_flip H3.out)
    still_step
    still_call (calls_flip H4.out)
    iterate 9 still_step
    refine wpStill_nil ?_
    change Exit.then _ _ _ _ w3.drew
    go_wp2_with fail
    go_ret
    exact ⟨rfl, HB3.out.drew⟩
end Go.Proofs.Ytaeoaaajkcnbkaa
