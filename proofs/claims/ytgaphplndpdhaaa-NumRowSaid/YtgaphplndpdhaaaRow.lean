/- The walk of the law NumRow: it returns true. Condition: the argument reads as a list of numbers of 64 bits. -/
import Derived.Test.YtgaphplndpdhaaaAwake
namespace Go.Proofs.Ytgaphplndpdhaaa
open Go.RowKit
def u64v (n : Nat) : Value := .int .u64 (n : Int)
def enc (l : List Nat) : List (BitVec 8) := l.flatMap digs
def atN (l : List Nat) (i : Nat) : Nat := l.getD i 0
theorem atN_of (l : List Nat) (i : Nat) (h : i < l.length) : (l.map u64v)[i]? = some (.int .u64 (atN l i : Int)) := by
  rw [List.getElem?_map, List.getElem?_eq_getElem h]
  simp [atN, u64v, List.getD_eq_getElem?_getD, List.getElem?_eq_getElem h]
theorem atN_mem (l : List Nat) (i : Nat) (h : i < l.length) : atN l i ∈ l := by
  simp [atN, List.getD_eq_getElem?_getD, List.getElem?_eq_getElem h]
theorem enc_take (l : List Nat) (k : Nat) (h : k < l.length) : enc (l.take (k + 1)) = enc (l.take k) ++ digs (atN l k) := by
  unfold enc
  rw [List.take_succ_eq_append_getElem h, List.flatMap_append, List.flatMap_singleton]
  simp [atN, List.getD_eq_getElem?_getD, List.getElem?_eq_getElem h]
theorem enc_drop (l : List Nat) (k : Nat) (h : k < l.length) : enc (l.drop k) = digs (atN l k) ++ enc (l.drop (k + 1)) := by
  unfold enc
  rw [List.drop_eq_getElem_cons h, List.flatMap_cons]
  simp [atN, List.getD_eq_getElem?_getD, List.getElem?_eq_getElem h]
theorem enc_len (l : List Nat) (h : ∀ x ∈ l, x < 18446744073709551616) : (enc l).length ≤ 10 * l.length := by
  induction l with
  | nil => simp [enc]
  | cons x r ih =>
    have h1 := digs_len10 x (h x List.mem_cons_self)
    have h2 := ih (fun y hy => h y (List.mem_cons_of_mem _ hy))
    unfold enc at h2 ⊢
    rw [List.flatMap_cons, List.length_append, List.length_cons]
    omega
theorem enc_take_len (l : List Nat) (k : Nat) (h : ∀ x ∈ l, x < 18446744073709551616) (hl : l.length ≤ 100) : (enc (l.take k)).length ≤ 1000 := by
  have := enc_len (l.take k) (fun x hx => h x (List.mem_of_mem_take hx))
  rw [List.length_take] at this; omega
theorem enc_drop_len (l : List Nat) (k : Nat) (h : ∀ x ∈ l, x < 18446744073709551616) (hl : l.length ≤ 100) : (enc (l.drop k)).length ≤ 1000 := by
  have := enc_len (l.drop k) (fun x hx => h x (List.mem_of_mem_drop hx))
  rw [List.length_drop] at this; omega
set_option maxHeartbeats 2000000 in
theorem row_any (l : List Nat) (q : Option Addr) (c : Nat) (w : World) (hs : Sees w w.heap.size q (l.map u64v)) (hm : l.length ≤ maxLen) (hw : ∀ x ∈ l, x < 18446744073709551616) :
    Calls Try.prog 6 #[.slice q l.length c] w fun e w' => e = .returned (.bool true) ∧ Below w.heap.size w w' := by
  unfold maxLen at hm
  have HA := Lib.hid (awake_any w)
  by_cases hbig : 100 < l.length
  · have k1 : (100 : Int) < (l.length : Int) := by omega
    clear hs hbig
    go_enter Try.func6, Try.ntmps6
    go_wp2_with ((with_reducible refine HA.out.mono ?_); rintro e w1 ⟨rfl, hb1⟩)
    go_ret
    exact ⟨rfl, hb1⟩
  have k1 : ¬ (100 : Int) < (l.length : Int) := by omega
  have hl : l.length ≤ 100 := by omega
  have HS := Lib.hid hs
  have HW := Lib.hid hw
  clear hs hw hbig
  go_enter Try.func6, Try.ntmps6
  go_wp2_with fail
  refine HA.out.mono ?_
  rintro e w1 ⟨rfl, hb1⟩
  have HB1 := Lib.hid hb1
  clear hb1 HA
  go_wp2_with fail
  go_loopw [3, 4, 5] (fun vb vn vi wr => ∃ k : Nat, k ≤ l.length ∧ vi = .int .i64 k ∧ vn = .int .i64 ((enc (l.take k)).length : Int) ∧ Bs wr vb (enc (l.take k)) ∧ Below w.heap.size w wr) (fun _ _ vi _ => l.length - (intOf vi).toNat)
  case atStart => exact ⟨0, by omega, rfl, rfl, Bs.nil _, HB1.out⟩
  case round =>
    clear HB1
    rename_i wr
    obtain ⟨k, hk, rfl, rfl, ⟨q2, c2, rfl, hc2, hq2, hs2⟩, hB⟩ := hrel
    by_cases hlt : k < l.length
    · obtain ⟨p, rfl, hpb, hcell⟩ := HS.out (by simp; omega)
      have hxb := HW.out _ (atN_mem l k hlt)
      have hx : wr.cell? (p.add k) = some (.int .u64 (atN l k : Int)) := (hB.cell (by rw [add_block]; exact hpb)).trans (hcell k _ (atN_of l k hlt))
      have het := enc_take l k hlt
      have hel := enc_take_len l k HW.out hl
      have hel2 := enc_take_len l (k + 1) HW.out hl
      have hel3 := congrArg List.length het
      rw [List.length_append] at hel3
      generalize atN l k = x at *
      have H1 := Lib.hid (put_any (enc (l.take k)) q2 c2 x wr hs2 hq2 (by omega) hxb)
      rw [← het] at H1
      have H2 : Hid (∀ w1, Calls Try.prog 11 #[.int .u64 (x : Int)] w1 fun e w' => e = .returned (.int .i64 ((digs x).length : Int)) ∧ w1 = w') := Lib.hid (fun w1 => size_any x w1 hxb)
      have HX : Hid (∀ w2, Below wr.heap.size wr w2 → w2.cell? (p.add k) = some (.int .u64 (x : Int))) := Lib.hid (fun w2 h2 => (h2.cell (by rw [add_block]; have := hB.size; omega)).trans hx)
      have HB := Lib.hid hB
      have HE := Lib.hid hel3
      generalize enc (l.take k) = e1 at *
      obtain ⟨e2, he2⟩ : ∃ e2, e2 = enc (l.take (k + 1)) := ⟨_, rfl⟩
      rw [← he2] at H1 HE hel2
      have HE2 := Lib.hid he2
      have hd := digs_len10 x hxb
      generalize (digs x).length = dn at *
      clear he2 hcell het hel3 hs2 hc2 hq2 hB hxb
      go_wp2_with fail
      refine H1.out.mono ?_
      rintro e w2 ⟨v, rfl, hv, hb2⟩
      have HV := Lib.hid hv
      have HB2 := Lib.hid (HB.out.trans (hb2.mono HB.out.size))
      have hx2 := HX.out w2 hb2
      clear hx hv hb2 H1
      go_wp2_with ((with_reducible refine (H2.out _).mono ?_); rintro e w3 ⟨rfl, rfl⟩)
      go_roundw
      case rel => exact ⟨k + 1, by omega, by go_num, by rw [← HE2.out, HE.out]; go_num, by rw [← HE2.out]; exact HV.out, HB2.out⟩
      case measure => simp [intOf]; omega
    · have hkl : k = l.length := by omega
      have k2 : ¬ (k : Int) < (l.length : Int) := by omega
      rw [hkl, List.take_length] at hc2 hs2 ⊢
      rw [← hkl]
      have h0 : enc l = enc (l.drop 0) := rfl
      have hel := enc_drop_len l 0 HW.out hl
      rw [← h0] at hel
      have HS0 : Hid (Bs wr (.slice q2 (enc l).length c2) (enc (l.drop 0))) := Lib.hid ⟨q2, c2, rfl, hc2, hq2, hs2⟩
      have HB := Lib.hid hB
      clear hc2 hq2 hs2 hB hlt h0
      generalize hE : enc l = E at *
      clear hE
      have kE : ((E.length : Int) != (E.length : Int)) = false := by simp
      go_wp2_with fail
      go_loop [3, 6] (fun vb vi => ∃ j : Nat, j ≤ l.length ∧ vi = .int .i64 j ∧ Bs wr vb (enc (l.drop j))) (fun _ vi => l.length - (intOf vi).toNat)
      case atStart => exact ⟨0, by omega, rfl, HS0.out⟩
      case round =>
        clear HS0
        obtain ⟨j, hj, rfl, ⟨q3, c3, rfl, hc3, hq3, hs3⟩⟩ := hrel
        by_cases hlt : j < l.length
        · obtain ⟨p, rfl, hpb, hcell⟩ := HS.out (by simp; omega)
          have hxb := HW.out _ (atN_mem l j hlt)
          have hx : wr.cell? (p.add j) = some (.int .u64 (atN l j : Int)) := (HB.out.cell (by rw [add_block]; exact hpb)).trans (hcell j _ (atN_of l j hlt))
          have hed := enc_drop l j hlt
          have hl2 := enc_drop_len l j HW.out hl
          have hg := get_any (enc (l.drop j)) q3 c3 wr hs3 (by omega)
          have hgl := getL_digs (atN l j) (enc (l.drop (j + 1))) hxb
          rw [← hed] at hgl
          rw [hgl] at hg
          unfold tri at hg
          have HG := Lib.hid hg
          have hlen := congrArg List.length hed
          rw [List.length_append] at hlen
          have hdp := digs_pos (atN l j)
          have hd10 := digs_len10 (atN l j) hxb
          have hcut := cut_from q3 (enc (l.drop j)).length c3 (digs (atN l j)).length (by omega) wr
          have hbs := Bs.cut hc3 hq3 hs3 (digs (atN l j)).length (by omega)
          rw [hed, List.drop_left, ← hed] at hbs
          have HBS := Lib.hid hbs
          have kx : ((atN l j : Int) != (atN l j : Int)) = false := by simp
          have t1 : ¬ ((enc (l.drop j)).length : Int) < ((digs (atN l j)).length : Int) := by omega
          have t2 : ¬ ((digs (atN l j)).length : Int) < 1 := by omega
          generalize atN l j = x at *
          generalize (digs x).length = dn at *
          generalize enc (l.drop j) = e1 at *
          clear hbs hg hgl hed hlen hcell hc3 hq3 hs3
          go_wp2_with fail
          refine HG.out.mono ?_
          rintro e w3 ⟨rfl, rfl⟩
          go_wp2_with fail
          go_round
          case rel => exact ⟨j + 1, by omega, by go_num, HBS.out⟩
          case measure => simp [intOf]; omega
        · have hjl : j = l.length := by omega
          have k3 : ¬ (j : Int) < (l.length : Int) := by omega
          have he : enc (l.drop j) = [] := by rw [hjl, List.drop_length]; rfl
          rw [he] at hc3 hs3 ⊢
          clear hc3 hs3 he hlt
          go_wp2_with fail
          go_ret
          exact ⟨rfl, HB.out⟩
end Go.Proofs.Ytgaphplndpdhaaa
