/- Contracts: the document's own Seal, Open. Condition: fewer than 2^40 bytes. -/
import Derived.Test.YtpfckamobjcdhabDoorSeal
import Derived.Test.YtpfckamobjcdhabDoorRcrc
namespace Go.Proofs.YtpfckamobjcdhabDoor
open Go.RowKit
theorem rcrc0 (l : List (BitVec 8)) (q : Option Addr) (cap : Nat) (w : World) (hs : Sees w w.heap.size q (l.map u8v)) (hl : l.length < 1099511627776) :
    Calls Tryd.prog 21 #[.int .u32 0, .slice q l.length cap] w fun e w' => e = .returned (.int .u32 (N (crc 0#32 l))) ∧ w = w' := by
  have := rcrc_any 0#32 l q cap w hs (by omega)
  rw [show N 0#32 = 0 from rfl] at this
  exact this
theorem empty_own (w : World) (base : Nat) (hb : base ≤ w.heap.size) : (w.alloc (.cells #[] 5)).ownsRow base 5 1 (.slice (some ⟨w.heap.size, 0, none⟩) 0 0) 0 [] :=
  World.ownsRow_made w #[] 0 hb (by unfold maxLen; omega) (by simp)
set_option maxHeartbeats 1000000 in
set_option maxRecDepth 100000 in
theorem rseal_any (x : List (BitVec 8)) (q : Option Addr) (c : Nat) (w : World) (hs : Sees w w.heap.size q (x.map u8v)) (hq : q = none → c = 0) (hl : x.length < 1099511627776) :
    Calls Tryd.prog 24 #[.slice q x.length c] w (Gives w (sealL x)) := by
  obtain ⟨r, hr⟩ : ∃ r, r = crc 0#32 x := ⟨_, rfl⟩
  have HC := rcrc0 x q c w hs hl
  rw [← hr] at HC
  replace HC := Lib.hid HC
  have HSL : Hid ((sealL x).map u8v = x.map u8v ++ (sealB r).map u8v) := Lib.hid (by rw [hr]; unfold sealL; rw [List.map_append])
  have HS1 : Hid (Sees (w.alloc (.cells #[] 5)) w.heap.size q (x.map u8v)) := Lib.hid (hs.keep ((Below.refl _ _).alloc (Nat.le_refl _) _))
  have HB1 : Hid (Below w.heap.size w (w.alloc (.cells #[] 5))) := Lib.hid ((Below.refl _ _).alloc (Nat.le_refl _) _)
  have HO := Lib.hid (empty_own w w.heap.size (Nat.le_refl _))
  have HQ := Lib.hid hq
  have sh8 := N_sr8 r
  have sh16 := N_sr16 r
  have sh24 := N_sr24 r
  have b0 := B_of_N r
  have b1 := B_of_N (r >>> 8)
  have b2 := B_of_N (r >>> 16)
  have b3 := B_of_N (r >>> 24)
  clear hs hq hr
  go_enter Tryd.func24, Tryd.ntmps24
  go_wp2_with fail
  refine HC.out.mono ?_
  rintro e w0 ⟨rfl, rfl⟩
  go_wp2_with (first
    | (at_builtin
       refine wpList_append_sees rfl (.tmp 6) (.tmp 7) rfl w.heap.size _ 0 [] rfl HO.out q x c w.heap.size rfl HQ.out HS1.out (by omega) HB1.out.size ?_
       intro v1 w1 h1 h2
       have H1 := Lib.hid h1
       have HB2 := Lib.hid (HB1.out.trans h2)
       clear h1 h2)
    | (at_builtin
       have hs2 : Sees (w1.alloc (.cells #[.int .u8 (B (b32 r)), .int .u8 (B (b32 (r >>> 8))), .int .u8 (B (b32 (r >>> 16))), .int .u8 (B (b32 (r >>> 24)))] 5)) (w1.heap.size + 1) (some ⟨w1.heap.size, 0, none⟩) ((sealB r).map u8v) := Sees.of_has (Has.made' w1 5 _ ((sealB r).map u8v) rfl) (by omega)
       have hb2 : w.heap.size ≤ (w1.alloc (.cells #[.int .u8 (B (b32 r)), .int .u8 (B (b32 (r >>> 8))), .int .u8 (B (b32 (r >>> 16))), .int .u8 (B (b32 (r >>> 24)))] 5)).heap.size := by have := HB2.out.size; simp; omega
       refine wpList_append_sees rfl (.tmp 8) (.tmp 20) rfl w.heap.size v1 (0 + x.length) ([] ++ x.map u8v) rfl (H1.out.alloc _) (some ⟨w1.heap.size, 0, none⟩) (sealB r) 4 (w1.heap.size + 1) rfl (fun h => by cases h) hs2 (by rw [sealB_length]; omega) hb2 ?_
       intro v2 w2 h1 h2
       have H2 := Lib.hid h1
       have HB3 := Lib.hid ((HB2.out.alloc HB2.out.size (.cells #[.int .u8 (B (b32 r)), .int .u8 (B (b32 (r >>> 8))), .int .u8 (B (b32 (r >>> 16))), .int .u8 (B (b32 (r >>> 24)))] 5)).trans h2)
       clear h1 h2 hs2 hb2))
  go_ret
  have h4 := H2.out
  rw [List.nil_append, ← HSL.out] at h4
  exact ⟨_, rfl, Bs.own h4, HB3.out⟩
theorem seal_get (r : BitVec 32) (k : Nat) (h : k < 4) : at8 (sealB r) k = b32 (r >>> (8 * k)) := by
  have : k = 0 ∨ k = 1 ∨ k = 2 ∨ k = 3 := by omega
  rcases this with rfl | rfl | rfl | rfl <;> simp [at8, sealB]
theorem seal_num (r : BitVec 32) (k : Nat) (h : k < 4) : N r / 2 ^ (8 * k) % 256 = B (at8 (sealB r) k) := by
  rw [seal_get r k h, ← B_of_N, ← N_shr, IntKind.wrap_u8']
theorem take_next (x y : List (BitVec 8)) (k : Nat) (hx : k < x.length) (hy : k < y.length) (h : x.take k = y.take k) (he : at8 x k = at8 y k) : x.take (k + 1) = y.take (k + 1) := by
  rw [take_at8 x k hx, take_at8 y k hy, h, he]
theorem at8_ne {x y : List (BitVec 8)} {k : Nat} (h : at8 x k ≠ at8 y k) : x ≠ y := fun e => h (by rw [e])
theorem at8_drop (x : List (BitVec 8)) (n k : Nat) : at8 (x.drop n) k = at8 x (n + k) := by
  unfold at8
  rw [List.getD_eq_getElem?_getD, List.getD_eq_getElem?_getD, List.getElem?_drop]
set_option maxHeartbeats 2000000 in
set_option maxRecDepth 100000 in
theorem ropen_any (x : List (BitVec 8)) (q : Option Addr) (c : Nat) (w : World) (hs : Sees w w.heap.size q (x.map u8v)) (hc : x.length ≤ c) (hq : q = none → c = 0) (hl : x.length < 1099511627776) :
    Calls Tryd.prog 22 #[.slice q x.length c] w (Opened w x) := by
  by_cases h4 : x.length < 4
  · have HO : Hid (opens x = false) := Lib.hid (by unfold opens; rw [decide_eq_false (by omega)]; rfl)
    have HE : Hid (openL x = []) := Lib.hid (by unfold openL; rw [HO.out]; rfl)
    have k1 : (x.length : Int) < 4 := by omega
    clear hs hc hq h4
    go_enter Tryd.func22, Tryd.ntmps22
    go_wp2_with fail
    go_ret2
    exact ⟨.slice none 0 0, by rw [HO.out]; rfl, by rw [HE.out]; exact Bs.nil _, Below.refl _ _⟩
  · obtain ⟨n, hn⟩ : ∃ n, x.length = n + 4 := ⟨x.length - 4, by omega⟩
    obtain ⟨p, hp⟩ : ∃ p, p = x.take n := ⟨_, rfl⟩
    obtain ⟨t, ht⟩ : ∃ t, t = x.drop n := ⟨_, rfl⟩
    have hpl : p.length = n := by rw [hp, List.length_take]; omega
    have htl : t.length = 4 := by rw [ht, List.length_drop]; omega
    have hps : Sees w w.heap.size q (p.map u8v) := by rw [hp, List.map_take]; exact hs.head n
    obtain ⟨r, hr⟩ : ∃ r, r = crc 0#32 p := ⟨_, rfl⟩
    have hop : opens x = decide (sealB r = t) := by
      unfold opens
      rw [hn, show n + 4 - 4 = n by omega, hr, hp, ht]; simp
    have hoe : openL x = if decide (sealB r = t) then p else [] := by
      unfold openL
      rw [hop, hn, show n + 4 - 4 = n by omega, ← hp]
    obtain ⟨a, rfl, _, hcell⟩ := hs.get (by simp; omega)
    have HCELL : Hid (∀ k, k < 4 → w.cell? (a.add (n + k)) = some (.int .u8 (B (at8 t k)))) := Lib.hid (fun k hk => by
      rw [ht, at8_drop]; exact hcell _ _ (at8_of x (n + k) (by omega)))
    have c1 := cut_to (some a) x.length c n (by omega)
    rw [cutQ_zero] at c1
    have HC := rcrc0 p (some a) c w hps (by omega)
    rw [hpl, ← hr] at HC
    replace HC := Lib.hid HC
    have HP := Lib.hid hps
    have HPL := Lib.hid hpl
    have HTL := Lib.hid htl
    rw [hn]
    rw [hn] at c1
    have HOP := Lib.hid hop
    have HOE := Lib.hid hoe
    have hnb : n < 1099511627776 := by omega
    have hnc : n + 4 ≤ c := by omega
    clear hs hc hq hl h4 hn hp ht hpl htl hps hop hoe hr hcell
    go_enter Tryd.func22, Tryd.ntmps22
    go_wp2_with fail
    refine HC.out.mono ?_
    rintro e w0 ⟨rfl, rfl⟩
    clear c1
    go_wp2_with fail
    go_loop [6] (fun vi => ∃ k : Nat, k ≤ 4 ∧ vi = .int .i64 k ∧ (sealB r).take k = t.take k) (fun vi => 4 - (intOf vi).toNat)
    case atStart => exact ⟨0, by omega, rfl, rfl⟩
    case round =>
      obtain ⟨k, hk, rfl, htk⟩ := hrel
      by_cases hlt : k < 4
      · have ck := HCELL.out k hlt
        have hnum := seal_num r k hlt
        have hnx := fun he => take_next (sealB r) t k (by rw [sealB_length]; exact hlt) (by rw [HTL.out]; exact hlt) htk he
        have hne := fun (he : at8 (sealB r) k ≠ at8 t k) => at8_ne he
        have k1 : (k : Int) < 4 := by omega
        generalize at8 t k = y at *
        generalize at8 (sealB r) k = z at *
        have HNX := Lib.hid hnx
        have HNE := Lib.hid hne
        have HTK := Lib.hid htk
        clear hnx hne htk
        by_cases hyz : z = y
        · subst hyz
          have k2 : (B z != B z) = false := by simp
          have k3 : (B z == B z) = true := by simp
          go_wp2_with fail
          go_round
          case rel => exact ⟨k + 1, by omega, by go_num, HNX.out rfl⟩
          case measure => simp [intOf]; omega
        · have hb : B y ≠ B z := fun h => hyz (B_inj h.symm)
          have k2 : (B y != B z) = true := by simpa using hb
          have k3 : (B y == B z) = false := by simpa using hb
          have hf := HNE.out hyz
          rw [decide_eq_false hf] at HOP HOE
          rw [if_neg (by simp)] at HOE
          clear hb hf hyz
          go_wp2_with fail
          go_ret2
          exact ⟨.slice none 0 0, by rw [HOP.out]; rfl, by rw [HOE.out]; exact Bs.nil _, Below.refl _ _⟩
      · have : k = 4 := by omega
        subst this
        clear hlt
        have he : sealB r = t := by
          rw [List.take_of_length_le (by rw [sealB_length]; omega), List.take_of_length_le (by rw [HTL.out]; omega)] at htk
          exact htk
        rw [decide_eq_true he] at HOP HOE
        rw [if_pos rfl] at HOE
        clear he htk
        have HS1 : Hid (Sees (w.alloc (.cells #[] 5)) w.heap.size (some a) (p.map u8v)) := Lib.hid (HP.out.keep ((Below.refl _ _).alloc (Nat.le_refl _) _))
        have HB1 : Hid (Below w.heap.size w (w.alloc (.cells #[] 5))) := Lib.hid ((Below.refl _ _).alloc (Nat.le_refl _) _)
        have HO := Lib.hid (empty_own w w.heap.size (Nat.le_refl _))
        go_wp2_with (at_builtin
                     refine wpList_append_sees rfl (.tmp 35) (.tmp 36) rfl w.heap.size _ 0 [] rfl HO.out (some a) p c w.heap.size (by rw [HPL.out]; rfl) (fun h => by cases h) HS1.out (by rw [HPL.out]; omega) HB1.out.size ?_
                     intro v1 w1 h1 h2
                     have H1 := Lib.hid h1
                     have HB2 := Lib.hid (HB1.out.trans h2)
                     clear h1 h2)
        go_ret2
        have h1 := H1.out
        rw [List.nil_append] at h1
        exact ⟨v1, by rw [HOP.out]; rfl, by rw [HOE.out]; exact Bs.own h1, HB2.out⟩
end Go.Proofs.YtpfckamobjcdhabDoor
