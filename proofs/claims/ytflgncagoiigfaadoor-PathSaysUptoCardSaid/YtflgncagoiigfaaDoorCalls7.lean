/- Contracts: package path's Up, Base, Depth, Join, Under, Inside. Condition: texts shorter than 2^61 bytes. -/
import Derived.Test.YtflgncagoiigfaaDoorGood
namespace Go.Proofs.YtflgncagoiigfaaDoor
open Go.RowKit
/-- What Up, Base, Depth, Join tell: of what is not Good nothing. -/
def upV (p : Tx) : Tx := if okPath p then upL p else []
def baseV (p : Tx) : Tx := if okPath p then baseL p else []
def depthV (p : Tx) : Nat := if okPath p then (nms p).length else 0
def joinV (p n : Tx) : Tx := if joinOk p n then joinL p n else []
theorem cut_up (s : ByteArray) (i : Nat) : (⟨(s.data.toList.take i).toArray⟩ : ByteArray) = s.extract 0 i := by
  rw [Lib.extract_eq]; simp
theorem cut_from (s : ByteArray) (i : Nat) : (⟨(s.data.toList.drop i).toArray⟩ : ByteArray) = s.extract i s.size := by
  rw [Lib.extract_eq, List.take_of_length_le]
  rw [List.length_drop]; exact Nat.le_refl _
set_option maxHeartbeats 800000 in
theorem up_any (s : ByteArray) (hs : s.size < 2305843009213693952) (w : World) :
    Calls Tryd.prog 9 #[.string s] w fun e w' => e = .returned (.tuple #[.string ⟨(upV s.data.toList).toArray⟩, .bool (okPath s.data.toList)]) ∧ Below w.heap.size w w' := by
  have H1 := Lib.hid (good_any s (by omega) w)
  have H2 := Lib.hid (fun w1 => lastIndex_any s (by omega) w1)
  obtain ⟨r, hr⟩ : ∃ r, Lib.lastIndexByte s 47 = r := ⟨_, rfl⟩
  have hsz : s.data.toList.length = s.size := rfl
  unfold upV
  cases hg : okPath s.data.toList with
  | false =>
    rw [hg] at H1
    clear hr H2 hsz
    go_enter Tryd.func9, Tryd.ntmps9
    go_wp2_with (first | ((with_reducible refine (H1.out).mono ?_); rintro e w1 ⟨rfl, hb1⟩))
    go_ret2
    exact ⟨rfl, hb1⟩
  | true =>
    rw [hg] at H1
    rw [hr] at H2
    rcases last_cases s with ⟨h1, h2⟩ | ⟨i, h0, h1, h2, h3⟩
    · have hu : upL s.data.toList = [] := (up_plain h2).1
      rw [if_pos rfl, hu]
      rw [h1] at hr
      subst hr
      clear h1 h2 hu hsz
      go_enter Tryd.func9, Tryd.ntmps9
      go_wp2_with (first | ((with_reducible refine (H1.out).mono ?_); rintro e w1 ⟨rfl, hb1⟩) | ((with_reducible refine (H2.out _).mono ?_); rintro e w1 ⟨rfl, rfl⟩))
      go_ret2
      exact ⟨congrArg (fun b => Ending.returned (.tuple #[.string b, .bool true])) (show s.extract 0 (max 0 (-1 : Int)).toNat = ⟨#[]⟩ from (cut_up s 0).symm), hb1⟩
    · have hu : upL s.data.toList = s.data.toList.take i := by
        have h4 := (up_sep (s.data.toList.take i) (s.data.toList.drop (i + 1)) h3).1
        rwa [← h2] at h4
      rw [if_pos rfl, hu]
      rw [h1] at hr
      subst hr
      clear h1 h2 hu
      go_enter Tryd.func9, Tryd.ntmps9
      go_wp2_with (first | ((with_reducible refine (H1.out).mono ?_); rintro e w1 ⟨rfl, hb1⟩) | ((with_reducible refine (H2.out _).mono ?_); rintro e w1 ⟨rfl, rfl⟩))
      go_ret2
      exact ⟨congrArg (fun b => Ending.returned (.tuple #[.string b, .bool true])) (cut_up s i).symm, hb1⟩
set_option maxHeartbeats 800000 in
theorem base_any (s : ByteArray) (hs : s.size < 2305843009213693952) (w : World) :
    Calls Tryd.prog 11 #[.string s] w fun e w' => e = .returned (.string ⟨(baseV s.data.toList).toArray⟩) ∧ Below w.heap.size w w' := by
  have H1 := Lib.hid (good_any s (by omega) w)
  have H2 := Lib.hid (fun w1 => lastIndex_any s (by omega) w1)
  obtain ⟨r, hr⟩ : ∃ r, Lib.lastIndexByte s 47 = r := ⟨_, rfl⟩
  have hsz : s.data.toList.length = s.size := rfl
  unfold baseV
  cases hg : okPath s.data.toList with
  | false =>
    rw [hg] at H1
    clear hr H2 hsz
    go_enter Tryd.func11, Tryd.ntmps11
    go_wp2_with (first | ((with_reducible refine (H1.out).mono ?_); rintro e w1 ⟨rfl, hb1⟩))
    go_ret
    exact ⟨rfl, hb1⟩
  | true =>
    rw [hg] at H1
    rw [hr] at H2
    rcases last_cases s with ⟨h1, h2⟩ | ⟨i, h0, h1, h2, h3⟩
    · have hu : baseL s.data.toList = s.data.toList := (up_plain h2).2
      rw [if_pos rfl, hu]
      rw [h1] at hr
      subst hr
      clear h1 h2 hu hsz
      go_enter Tryd.func11, Tryd.ntmps11
      go_wp2_with (first | ((with_reducible refine (H1.out).mono ?_); rintro e w1 ⟨rfl, hb1⟩) | ((with_reducible refine (H2.out _).mono ?_); rintro e w1 ⟨rfl, rfl⟩))
      go_ret
      exact ⟨congrArg (fun b => Ending.returned (.string b)) (Lib.mk_data s).symm, hb1⟩
    · have hu : baseL s.data.toList = s.data.toList.drop (i + 1) := by
        have h4 := (up_sep (s.data.toList.take i) (s.data.toList.drop (i + 1)) h3).2
        rwa [← h2] at h4
      rw [if_pos rfl, hu]
      rw [h1] at hr
      subst hr
      clear h1 h2 hu
      have kw : IntKind.i64.wrap ((i : Int) + 1) = ((i + 1 : Nat) : Int) := by rw [IntWalk.i64_in _ (by omega)]; omega
      have kl : ((i + 1 : Nat) : Int) ≤ (s.size : Int) := by omega
      go_enter Tryd.func11, Tryd.ntmps11
      go_wp2_with (first | ((with_reducible refine (H1.out).mono ?_); rintro e w1 ⟨rfl, hb1⟩) | ((with_reducible refine (H2.out _).mono ?_); rintro e w1 ⟨rfl, rfl⟩))
      go_ret
      exact ⟨congrArg (fun b => Ending.returned (.string b)) (cut_from s (i + 1)).symm, hb1⟩
set_option maxHeartbeats 800000 in
theorem depth_any (s : ByteArray) (hs : s.size < 2305843009213693952) (w : World) :
    Calls Tryd.prog 12 #[.string s] w fun e w' => e = .returned (.int .i64 (depthV s.data.toList : Nat)) ∧ Below w.heap.size w w' := by
  have H1 := Lib.hid (good_any s (by omega) w)
  have H2 := Lib.hid (fun w1 => count_any s w1)
  unfold depthV
  cases hg : okPath s.data.toList with
  | false =>
    rw [hg] at H1
    go_enter Tryd.func12, Tryd.ntmps12
    go_wp2_with (first | ((with_reducible refine (H1.out).mono ?_); rintro e w1 ⟨rfl, hb1⟩))
    go_ret
    exact ⟨rfl, hb1⟩
  | true =>
    rw [hg] at H1
    have hc : Lib.countByte s.data.toList 47 ≤ s.size := List.count_le_length
    rw [if_pos rfl, nms_count]
    have e : s.data.toList.count 47 = Lib.countByte s.data.toList 47 := rfl
    rw [e]
    generalize Lib.countByte s.data.toList 47 = c at *
    have kw : IntKind.i64.wrap ((c : Int) + 1) = ((c + 1 : Nat) : Int) := by rw [IntWalk.i64_in _ (by omega)]; omega
    clear e hg
    go_enter Tryd.func12, Tryd.ntmps12
    go_wp2_with (first | ((with_reducible refine (H1.out).mono ?_); rintro e w1 ⟨rfl, hb1⟩) | ((with_reducible refine (H2.out _).mono ?_); rintro e w1 ⟨rfl, rfl⟩))
    go_ret
    exact ⟨by simp, hb1⟩
theorem has_slash (n : ByteArray) : decide (0 ≤ Lib.indexByte n.data.toList 47) = n.data.toList.contains 47 := by
  rcases idx_cases n.data.toList with ⟨h1, h2⟩ | ⟨i, h0, h1, h2, h3⟩
  · rw [h1]
    have : n.data.toList.contains 47 = false := by simpa using h2
    rw [this]; rfl
  · rw [h1, decide_eq_true (by omega)]
    have : n.data.toList.contains 47 = true := by rw [h2]; simp
    rw [this]
/-- What Join tries: the whole. -/
theorem whole_eq (p n : ByteArray) (hp : ¬ p.data = #[]) : (p ++ ⟨#[47]⟩ ++ n).data.toList = joinL p.data.toList n.data.toList := by
  unfold joinL
  rw [if_neg (fun e => hp (Array.toList_eq_nil_iff.1 e))]
  simp [ByteArray.data_append]
theorem no_text {p : ByteArray} (h : p.data = #[]) : p.toList = [] := by rw [Lib.toList_data, h]
theorem some_text {p : ByteArray} (h : ¬ p.data = #[]) : p.toList.isEmpty = false := by
  rw [Lib.toList_data]
  cases he : p.data.toList with
  | nil => exact absurd (Array.toList_eq_nil_iff.1 he) h
  | cons a l => rfl
set_option maxHeartbeats 1600000 in
theorem join_any (p n : ByteArray) (hp : p.size < 2305843009213693950) (hn : n.size < 2305843009213693950) (w : World) :
    Calls Tryd.prog 14 #[.string p, .string n] w fun e w' => e = .returned (.tuple #[.string ⟨(joinV p.data.toList n.data.toList).toArray⟩, .bool (joinOk p.data.toList n.data.toList)]) ∧ Below w.heap.size w w' := by
  have H2 := Lib.hid (fun w1 => contains_any n w1)
  rw [has_slash] at H2
  cases hc : n.data.toList.contains 47 with
  | true =>
    rw [hc] at H2
    have hk : joinOk p.data.toList n.data.toList = false := by unfold joinOk; rw [hc]; rfl
    have hv : joinV p.data.toList n.data.toList = [] := by unfold joinV; rw [hk]; rfl
    rw [hk, hv]
    clear hk hv hc
    by_cases he : p.data = #[]
    · have hq := no_text he
      clear he
      go_enter Tryd.func14, Tryd.ntmps14
      go_wp2_with (first | ((with_reducible refine (H2.out _).mono ?_); rintro e w1 ⟨rfl, rfl⟩))
      go_ret2
      exact ⟨rfl, Below.refl _ _⟩
    · have hq := some_text he
      clear he
      go_enter Tryd.func14, Tryd.ntmps14
      go_wp2_with (first | ((with_reducible refine (H2.out _).mono ?_); rintro e w1 ⟨rfl, rfl⟩))
      go_ret2
      exact ⟨rfl, Below.refl _ _⟩
  | false =>
    rw [hc] at H2
    have hk : joinOk p.data.toList n.data.toList = okPath (joinL p.data.toList n.data.toList) := by unfold joinOk; rw [hc]; rfl
    have hv : joinV p.data.toList n.data.toList = if okPath (joinL p.data.toList n.data.toList) then joinL p.data.toList n.data.toList else [] := by unfold joinV; rw [hk]
    rw [hk, hv]
    clear hk hv hc
    by_cases he : p.data = #[]
    · have hj : joinL p.data.toList n.data.toList = n.data.toList := if_pos (by rw [he])
      rw [hj]
      have H1 := Lib.hid (fun w1 => good_any n (by omega) w1)
      have hq := no_text he
      clear he hj
      cases hg : okPath n.data.toList with
      | true =>
        rw [hg] at H1
        rw [if_pos rfl, Lib.mk_data]
        clear hg
        go_enter Tryd.func14, Tryd.ntmps14
        go_wp2_with (first | ((with_reducible refine (H1.out _).mono ?_); rintro e w1 ⟨rfl, hb1⟩) | ((with_reducible refine (H2.out _).mono ?_); rintro e w1 ⟨rfl, rfl⟩))
        go_ret2
        exact ⟨rfl, hb1⟩
      | false =>
        rw [hg] at H1
        rw [if_neg Bool.false_ne_true]
        clear hg
        go_enter Tryd.func14, Tryd.ntmps14
        go_wp2_with (first | ((with_reducible refine (H1.out _).mono ?_); rintro e w1 ⟨rfl, hb1⟩) | ((with_reducible refine (H2.out _).mono ?_); rintro e w1 ⟨rfl, rfl⟩))
        go_ret2
        exact ⟨rfl, hb1⟩
    · have hw := whole_eq p n he
      have hsz : (p ++ ⟨#[47]⟩ ++ n).size = p.size + 1 + n.size := by simp [ByteArray.size_append]; rfl
      have H1 := Lib.hid (fun w1 => good_any (p ++ ⟨#[47]⟩ ++ n) (by rw [hsz]; omega) w1)
      rw [hw] at H1
      have hz : ⟨(joinL p.data.toList n.data.toList).toArray⟩ = (p ++ ⟨#[47]⟩ ++ n) := by rw [← hw, Lib.mk_data]
      have HZ := Lib.hid hz
      have hq := some_text he
      clear hw hz hsz he
      cases hg : okPath (joinL p.data.toList n.data.toList) with
      | true =>
        rw [hg] at H1
        rw [if_pos rfl, HZ.out]
        clear hg
        go_enter Tryd.func14, Tryd.ntmps14
        go_wp2_with (first | ((with_reducible refine (H1.out _).mono ?_); rintro e w1 ⟨rfl, hb1⟩) | ((with_reducible refine (H2.out _).mono ?_); rintro e w1 ⟨rfl, rfl⟩))
        go_ret2
        exact ⟨rfl, hb1⟩
      | false =>
        rw [hg] at H1
        rw [if_neg Bool.false_ne_true]
        clear hg
        go_enter Tryd.func14, Tryd.ntmps14
        go_wp2_with (first | ((with_reducible refine (H1.out _).mono ?_); rintro e w1 ⟨rfl, hb1⟩) | ((with_reducible refine (H2.out _).mono ?_); rintro e w1 ⟨rfl, rfl⟩))
        go_ret2
        exact ⟨rfl, hb1⟩
theorem under_eq (p d : Tx) : underL p d = (Lib.hasPrefix p d && Lib.hasPrefix (Lib.trimPrefix p d) [47] && okPath p) := by
  unfold underL
  congr 1
  rw [Bool.eq_iff_iff, Bool.and_eq_true]
  unfold Lib.trimPrefix Lib.hasPrefix
  constructor
  · intro h
    obtain ⟨r, rfl⟩ := List.isPrefixOf_iff_prefix.1 h
    have h1 : d.isPrefixOf (d ++ [47] ++ r) = true := List.isPrefixOf_iff_prefix.2 ⟨47 :: r, by simp⟩
    refine ⟨h1, ?_⟩
    rw [if_pos h1]
    exact List.isPrefixOf_iff_prefix.2 ⟨r, by simp⟩
  · rintro ⟨h1, h⟩
    rw [if_pos h1] at h
    obtain ⟨t, rfl⟩ := List.isPrefixOf_iff_prefix.1 h1
    rw [List.drop_left] at h
    obtain ⟨r, rfl⟩ := List.isPrefixOf_iff_prefix.1 h
    exact List.isPrefixOf_iff_prefix.2 ⟨r, by simp⟩
set_option maxHeartbeats 1600000 in
theorem under_any (p d : ByteArray) (hp : p.size < 9223372036854775808) (w : World) :
    Calls Tryd.prog 13 #[.string p, .string d] w fun e w' => e = .returned (.bool (underL p.data.toList d.data.toList)) ∧ Below w.heap.size w w' := by
  rw [under_eq]
  have H1 := Lib.hid (fun w1 => good_any p (by omega) w1)
  have H2 := Lib.hid (fun w1 => cutPrefix_any p d w1)
  have H3 := Lib.hid (fun w1 => hasPrefix_any ⟨(Lib.trimPrefix p.data.toList d.data.toList).toArray⟩ ⟨#[47]⟩ w1)
  simp only at H3
  cases h1 : Lib.hasPrefix p.data.toList d.data.toList with
  | false =>
    rw [h1] at H2
    go_enter Tryd.func13, Tryd.ntmps13
    go_wp2_with (first | ((with_reducible refine (H2.out _).mono ?_); rintro e w1 ⟨rfl, rfl⟩))
    go_ret
    exact ⟨rfl, Below.refl _ _⟩
  | true =>
    rw [h1] at H2
    cases h2 : Lib.hasPrefix (Lib.trimPrefix p.data.toList d.data.toList) [47] with
    | false =>
      rw [h2] at H3
      go_enter Tryd.func13, Tryd.ntmps13
      go_wp2_with (first | ((with_reducible refine (H2.out _).mono ?_); rintro e w1 ⟨rfl, rfl⟩) | ((with_reducible refine (H3.out _).mono ?_); rintro e w1 ⟨rfl, rfl⟩))
      go_ret
      exact ⟨rfl, Below.refl _ _⟩
    | true =>
      rw [h2] at H3
      cases h3 : okPath p.data.toList with
      | false =>
        rw [h3] at H1
        go_enter Tryd.func13, Tryd.ntmps13
        go_wp2_with (first | ((with_reducible refine (H2.out _).mono ?_); rintro e w1 ⟨rfl, rfl⟩) | ((with_reducible refine (H3.out _).mono ?_); rintro e w1 ⟨rfl, rfl⟩) | ((with_reducible refine (H1.out _).mono ?_); rintro e w1 ⟨rfl, hb1⟩))
        go_ret
        exact ⟨rfl, hb1⟩
      | true =>
        rw [h3] at H1
        go_enter Tryd.func13, Tryd.ntmps13
        go_wp2_with (first | ((with_reducible refine (H2.out _).mono ?_); rintro e w1 ⟨rfl, rfl⟩) | ((with_reducible refine (H3.out _).mono ?_); rintro e w1 ⟨rfl, rfl⟩) | ((with_reducible refine (H1.out _).mono ?_); rintro e w1 ⟨rfl, hb1⟩))
        go_ret
        exact ⟨rfl, hb1⟩
set_option maxHeartbeats 800000 in
theorem inside_any (p : ByteArray) (hp : p.size < 9223372036854775808) (w : World) :
    Calls Tryd.prog 16 #[.string p] w fun e w' => e = .returned (.bool (insideL p.data.toList)) ∧ Below w.heap.size w w' := by
  have H1 := Lib.hid (fun w1 => under_any p ⟨#[46, 119, 111, 114, 107]⟩ hp w1)
  have hl : p.toList = p.data.toList := Lib.toList_data p
  unfold insideL
  cases h1 : (p.data.toList == [46, 119, 111, 114, 107]) with
  | true =>
    go_enter Tryd.func16, Tryd.ntmps16
    go_wp2_with fail
    go_ret
    exact ⟨rfl, Below.refl _ _⟩
  | false =>
    cases h2 : underL p.data.toList [46, 119, 111, 114, 107] with
    | true =>
      simp only [h2] at H1
      go_enter Tryd.func16, Tryd.ntmps16
      go_wp2_with (first | ((with_reducible refine (H1.out _).mono ?_); rintro e w1 ⟨rfl, hb1⟩))
      go_ret
      exact ⟨rfl, hb1⟩
    | false =>
      simp only [h2] at H1
      go_enter Tryd.func16, Tryd.ntmps16
      go_wp2_with (first | ((with_reducible refine (H1.out _).mono ?_); rintro e w1 ⟨rfl, hb1⟩))
      go_ret
      exact ⟨rfl, hb1⟩
end Go.Proofs.YtflgncagoiigfaaDoor
