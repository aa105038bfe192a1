/- Contracts: poly.sealOf, Seal, Open. Conditions: the table of rests as laid; fewer than 2^40 bytes. -/
import Derived.Test.YtpfckamobjcdhabDoorBytes
import Derived.Test.YtpfckamobjcdhabDoorOrd
import Derived.Deep.DeepCutAuto
import Derived.Laws.Rows
namespace Go.Proofs.YtpfckamobjcdhabDoor
open Go.RowKit
theorem u8v_one (l : List (BitVec 8)) : (l.map u8v).toArray.all (·.oneCell') = true :=
  Array.all_eq_true_iff_forall_mem.2 (fun v hv => by
    have : v ∈ l.map u8v := by simpa using hv
    obtain ⟨x, _, rfl⟩ := List.mem_map.1 this
    rfl)
/-- The seal of a rest. -/
def sealB (c : BitVec 32) : List (BitVec 8) := [b32 c, b32 (c >>> 8), b32 (c >>> 16), b32 (c >>> 24)]
theorem sealB_length (c : BitVec 32) : (sealB c).length = 4 := rfl
def z4 : List Value := [.int .u8 0, .int .u8 0, .int .u8 0, .int .u8 0]
theorem z4_run (w : World) : (zeroValue 76).run Tryd.prog w = .ok (.agg z4.toArray) w := by kernel_rfl
theorem one_part {w : World} {g : Nat} {q : Option Addr} {x : List (BitVec 8)} {c : Nat} (hg : Has w g 43 [.slice q x.length c]) (hc : x.length ≤ c) (hs : Sees w w.heap.size q (x.map u8v)) :
    Parts w w.heap.size (some ⟨g, 0, none⟩) [x] := fun i hi => by
  have hi : i = 0 := by simpa using hi
  subst hi
  exact ⟨_, q, c, rfl, hg.lt, hg.cellv (i := 0) rfl, hc, hs⟩
theorem of_one (x : List (BitVec 8)) (q : Option Addr) (c g : Nat) (w : World) (hg : Has w g 43 [.slice q x.length c]) (hc : x.length ≤ c) (hs : Sees w w.heap.size q (x.map u8v)) (hl : x.length < 1099511627776) (hR : Rests w) :
    Calls Tryd.prog 16 #[.slice (some ⟨g, 0, none⟩) 1 1] w fun e w' => e = .returned (.int .u32 (N (crc 0#32 x))) ∧ w = w' := by
  have := of_any [x] (some ⟨g, 0, none⟩) 1 w (one_part hg hc hs) (by simp) (by simp; omega) hR
  rw [show ([x] : List (List (BitVec 8))).flatten = x by simp] at this
  exact this
set_option maxHeartbeats 1000000 in
set_option maxRecDepth 100000 in
theorem sealOf_any (x : List (BitVec 8)) (q : Option Addr) (c : Nat) (w : World) (hs : Sees w w.heap.size q (x.map u8v)) (hc : x.length ≤ c) (hl : x.length < 1099511627776) (hR : Rests w) :
    Calls Tryd.prog 34 #[.slice q x.length c] w fun e w' => e = .returned (.agg ((sealB (crc 0#32 x)).map u8v).toArray) ∧ Below w.heap.size w w' := by
  have h0 := hR.1
  have HC : ∀ w1 g, Has w1 g 43 [.slice q x.length c] → Below w.heap.size w w1 → Calls Tryd.prog 16 #[.slice (some ⟨g, 0, none⟩) 1 1] w1 fun e w' => e = .returned (.int .u32 (N (crc 0#32 x))) ∧ w1 = w' :=
    fun w1 g hg hb => of_one x q c g w1 hg hc ((hs.keep hb).more hb.size) hl (hR.keep hb h0)
  replace HC := Lib.hid HC
  obtain ⟨r, hr⟩ : ∃ r, r = crc 0#32 x := ⟨_, rfl⟩
  rw [← hr] at HC
  rw [← hr]
  clear hs hc hl hR h0 hr
  have sh8 := N_sr8 r
  have sh16 := N_sr16 r
  have sh24 := N_sr24 r
  have b0 := B_of_N r
  have b1 := B_of_N (r >>> 8)
  have b2 := B_of_N (r >>> 16)
  have b3 := B_of_N (r >>> 24)
  have hz := z4_run
  go_enter Tryd.func34, Tryd.ntmps34
  go_wp2_with fail
  have hB : Below w.heap.size w ((w.alloc (.cells z4.toArray 76)).alloc (.cells #[.slice q x.length c] 43)) := ((Below.refl _ _).alloc (Nat.le_refl _) _).alloc (by simp) _
  have h2 : Has ((w.alloc (.cells z4.toArray 76)).alloc (.cells #[.slice q x.length c] 43)) (w.heap.size + 1) 43 [.slice q x.length c] := Has.made1 _ _ _ _ _ rfl
  have h1 : Has ((w.alloc (.cells z4.toArray 76)).alloc (.cells #[.slice q x.length c] 43)) w.heap.size 76 z4 := (Has.made' _ _ _ _ rfl).alloc _
  generalize World.alloc (World.alloc w _) _ = w1 at *
  have HB := Lib.hid hB
  have H1 := Lib.hid h1
  have HC2 := Lib.hid (HC.out w1 _ h2 hB)
  clear hB h1 h2 hz
  refine HC2.out.mono ?_
  rintro e w2 ⟨rfl, rfl⟩
  have c0 := H1.out.cellv (i := 0) (v := .int .u8 0) rfl
  have c1 := H1.out.cellv (i := 1) (v := .int .u8 0) rfl
  have c2 := H1.out.cellv (i := 2) (v := .int .u8 0) rfl
  have c3 := H1.out.cellv (i := 3) (v := .int .u8 0) rfl
  have f0 := H1.out.free 0
  have f1 := H1.out.free 1
  have f2 := H1.out.free 2
  have f3 := H1.out.free 3
  go_wp2_with fail
  generalize hW : World.setCell _ _ _ = w9
  have h9 : Has w9 w.heap.size 76 ((sealB r).map u8v) := by
    rw [← hW]; exact (((H1.out.put 0 _).put 1 _).put 2 _).put 3 _
  have b9 : Below w.heap.size w w9 := by
    rw [← hW]; exact (((HB.out.setCell (Nat.le_refl _) _).setCell (Nat.le_refl _) _).setCell (Nat.le_refl _) _).setCell (Nat.le_refl _) _
  clear hW
  refine bodyPost_ret (v := .agg ((sealB r).map u8v).toArray) ?_ rfl ⟨rfl, b9⟩
  exact results_cell_row rfl _ _ w.heap.size 76 _ (0, 0) _ rfl h9 Tryd.underlying76 rfl (by kernel_rfl)
/-- What Seal makes; what Open answers. -/
def sealL (x : List (BitVec 8)) : List (BitVec 8) := x ++ sealB (crc 0#32 x)
theorem sealL_length (x : List (BitVec 8)) : (sealL x).length = x.length + 4 := by unfold sealL; rw [List.length_append, sealB_length]
def opens (x : List (BitVec 8)) : Bool := decide (4 ≤ x.length) && decide (sealB (crc 0#32 (x.take (x.length - 4))) = x.drop (x.length - 4))
def openL (x : List (BitVec 8)) : List (BitVec 8) := if opens x then x.take (x.length - 4) else []
theorem opens_seal (x : List (BitVec 8)) : opens (sealL x) = true := by
  unfold opens
  rw [sealL_length, show x.length + 4 - 4 = x.length by omega]
  unfold sealL
  rw [List.take_append_of_le_length (Nat.le_refl _), List.take_length, List.drop_append_of_le_length (Nat.le_refl _), List.drop_length]
  simp
theorem openL_seal (x : List (BitVec 8)) : openL (sealL x) = x := by
  unfold openL
  rw [opens_seal, if_pos rfl, sealL_length, show x.length + 4 - 4 = x.length by omega]
  unfold sealL
  rw [List.take_append_of_le_length (Nat.le_refl _), List.take_length]
theorem seal_open (x : List (BitVec 8)) (h : opens x = true) : sealL (openL x) = x := by
  unfold openL sealL
  rw [h, if_pos rfl]
  unfold opens at h
  simp only [Bool.and_eq_true, decide_eq_true_eq] at h
  rw [h.2, List.take_append_drop]
theorem openL_length (x : List (BitVec 8)) : (openL x).length ≤ x.length := by
  unfold openL
  split
  · rw [List.length_take]; omega
  · simp
set_option maxHeartbeats 1000000 in
set_option maxRecDepth 100000 in
theorem seal_any (x : List (BitVec 8)) (q : Option Addr) (c : Nat) (w : World) (hs : Sees w w.heap.size q (x.map u8v)) (hc : x.length ≤ c) (hq : q = none → c = 0) (hl : x.length < 1099511627776) (hR : Rests w) :
    Calls Tryd.prog 18 #[.slice q x.length c] w (Gives w (sealL x)) := by
  have HS := Lib.hid hs
  have HR := Lib.hid hR
  have HQ := Lib.hid hq
  have hmk := made_run (x.length + 4) (by omega)
  have ho := made_own (x.length + 4) (by omega) w w.heap.size (Nat.le_refl _)
  have hB : Below w.heap.size w (w.alloc (.cells (madeCells #[Value.int .u8 0] (x.length + 4)) 5)) := (Below.refl _ _).alloc (Nat.le_refl _) _
  have HO := Lib.hid ho
  have HB := Lib.hid hB
  have HS1 := Lib.hid (hs.keep hB)
  have k1 : ((x.length + 4 : Nat) : Int) = (x.length : Int) + 4 := by omega
  rw [k1] at hmk
  clear hs hR hq ho hB k1
  go_enter Tryd.func18, Tryd.ntmps18
  go_upto_region 3 with (at_builtin; refine wpList_append_sees rfl _ _ rfl w.heap.size _ 0 [] rfl HO.out q x c w.heap.size rfl HQ.out HS1.out (by omega) HB.out.size ?_; intro v1 w1 h1 h2; have H1 := Lib.hid h1; have HB1 := Lib.hid (HB.out.trans h2); clear h1 h2)
  clear hmk HO HB HS1
  go_wp2_with fail
  have HC := sealOf_any x q c w1 ((HS.out.keep HB1.out).more HB1.out.size) hc hl (HR.out.keep HB1.out HR.out.1)
  obtain ⟨cs, hcs⟩ : ∃ cs, cs = (sealB (crc 0#32 x)).map u8v := ⟨_, rfl⟩
  rw [← hcs] at HC
  have HSL : Hid ((sealL x).map u8v = x.map u8v ++ cs) := Lib.hid (by rw [hcs]; unfold sealL; rw [List.map_append])
  have HL : Hid (z4.toArray.size = cs.toArray.size) := Lib.hid (by rw [hcs]; rfl)
  have HK : Hid ((Tryd.prog.info? 76).map (·.size) = some cs.toArray.size) := Lib.hid (by rw [← HL.out]; kernel_rfl)
  have HO : Hid (cs.toArray.all (·.oneCell') = true) := Lib.hid (by rw [hcs]; exact u8v_one _)
  have HSB : Hid (∀ w g, Has w g 76 cs → Sees w w.heap.size (some ⟨g, 0, none⟩) ((sealB (crc 0#32 x)).map u8v)) := Lib.hid (by intro w g h; rw [← hcs]; exact Sees.of_has h h.lt)
  obtain ⟨sb, hsb⟩ : ∃ sb, sb = sealB (crc 0#32 x) := ⟨_, rfl⟩
  have hsl : sb.length = 4 := by rw [hsb]; rfl
  have HCS : Hid (cs = sb.map u8v) := Lib.hid (by rw [hsb]; exact hcs)
  rw [← hsb] at HSB
  have hz := z4_run
  clear hcs hsb
  refine HC.mono ?_
  rintro e w2 ⟨rfl, hb2⟩
  have H2 := Lib.hid (own_keep H1.out hb2 (fun _ h => h))
  have HB2 := Lib.hid (HB1.out.trans (hb2.mono HB1.out.size))
  clear hb2 H1 HC
  go_upto_region 4 with (refine wpList_store_row rfl 76 _ _ rfl w2.heap.size _ rfl rfl 76 _ (Has.made' w2 76 _ z4 rfl) HK.out HL.out HO.out ?_)
  clear hz
  have h3 : Has ((w2.alloc (.cells z4.toArray 76)).setRow w2.heap.size cs.toArray) w2.heap.size 76 cs := (Has.made' w2 76 _ z4 rfl).rowl cs
  have hB3 : Below w2.heap.size w2 ((w2.alloc (.cells z4.toArray 76)).setRow w2.heap.size cs.toArray) := below_row ((Below.refl _ _).alloc (Nat.le_refl _) _) (Nat.le_refl _) _
  generalize hw3 : World.setRow _ _ _ = w3 at *
  clear hw3
  have H3 := Lib.hid (own_keep H2.out hB3 (fun _ h => h))
  have HB3 := Lib.hid (HB2.out.trans (hB3.mono HB2.out.size))
  have HS3 := Lib.hid (HSB.out w3 _ h3)
  clear h3 hB3 HSB H2 HB2
  have HSLN := Lib.hid hsl
  clear hsl
  go_wp2_with (at_builtin; refine wpList_append_sees rfl _ _ rfl w.heap.size v1 (0 + x.length) ([] ++ x.map u8v) rfl H3.out (some ⟨w2.heap.size, 0, none⟩) sb 4 w3.heap.size (by rw [HSLN.out]; rfl) (fun h => by cases h) HS3.out (by rw [HSLN.out]; omega) HB3.out.size ?_; intro v4 w4 h1 h2; have H4 := Lib.hid h1; have HB4 := Lib.hid (HB3.out.trans h2); clear h1 h2)
  go_ret
  have h4 := H4.out
  rw [← HCS.out, List.nil_append, ← HSL.out] at h4
  exact ⟨_, rfl, Bs.own h4, HB4.out⟩
/-- What Open hands back. -/
def Opened (w : World) (x : List (BitVec 8)) (e : Ending) (w' : World) : Prop := ∃ v, e = .returned (.tuple #[v, .bool (opens x)]) ∧ Bs w' v (openL x) ∧ Below w.heap.size w w'
set_option maxHeartbeats 2000000 in
set_option maxRecDepth 100000 in
theorem open_any (x : List (BitVec 8)) (q : Option Addr) (c : Nat) (w : World) (hs : Sees w w.heap.size q (x.map u8v)) (hc : x.length ≤ c) (hq : q = none → c = 0) (hl : x.length < 1099511627776) (hR : Rests w) :
    Calls Tryd.prog 17 #[.slice q x.length c] w (Opened w x) := by
  by_cases h4 : x.length < 4
  · have HO : Hid (opens x = false) := Lib.hid (by unfold opens; rw [decide_eq_false (by omega)]; rfl)
    have HE : Hid (openL x = []) := Lib.hid (by unfold openL; rw [HO.out]; rfl)
    have k1 : (x.length : Int) - 4 < 0 := by omega
    clear hs hc hq hR h4
    go_enter Tryd.func17, Tryd.ntmps17
    go_wp2_with fail
    go_ret2
    exact ⟨.slice none 0 0, by rw [HO.out]; rfl, by rw [HE.out]; exact Bs.nil _, Below.refl _ _⟩
  · obtain ⟨n, hn⟩ : ∃ n, x.length = n + 4 := ⟨x.length - 4, by omega⟩
    obtain ⟨p, hp⟩ : ∃ p, p = x.take n := ⟨_, rfl⟩
    obtain ⟨t, ht⟩ : ∃ t, t = x.drop n := ⟨_, rfl⟩
    have hpl : p.length = n := by rw [hp, List.length_take]; omega
    have htl : t.length = 4 := by rw [ht, List.length_drop]; omega
    have hps : Sees w w.heap.size q (p.map u8v) := by rw [hp, List.map_take]; exact hs.head n
    have hts : Sees w w.heap.size (cutQ q c n) (t.map u8v) := by rw [ht, List.map_drop]; exact hs.cut (by simpa using hc)
    have hop : opens x = decide (sealB (crc 0#32 p) = t) := by
      unfold opens
      rw [hn, show n + 4 - 4 = n by omega, hp, ht]; simp
    have hoe : openL x = if decide (sealB (crc 0#32 p) = t) then p else [] := by
      unfold openL
      rw [hop, hn, show n + 4 - 4 = n by omega, ← hp]
    have h0 := hR.1
    have c1 := cut_to q x.length c n (by omega)
    rw [cutQ_zero] at c1
    have c2 := cut_from q x.length c n (by omega)
    rw [show x.length - n = 4 by omega] at c2
    have HS := sealOf_any p q c w hps (by omega) (by omega) hR
    rw [hpl] at HS
    have HP := Lib.hid hps
    have HT := Lib.hid hts
    have HQ := Lib.hid hq
    have HPL := Lib.hid hpl
    have HTL := Lib.hid htl
    rw [hn]
    rw [hn] at c1 c2
    obtain ⟨cs, hcs⟩ : ∃ cs, cs = (sealB (crc 0#32 p)).map u8v := ⟨_, rfl⟩
    rw [← hcs] at HS
    have HL : Hid (z4.toArray.size = cs.toArray.size) := Lib.hid (by rw [hcs]; rfl)
    have HK : Hid ((Tryd.prog.info? 76).map (·.size) = some cs.toArray.size) := Lib.hid (by rw [← HL.out]; kernel_rfl)
    have HO : Hid (cs.toArray.all (·.oneCell') = true) := Lib.hid (by rw [hcs]; exact u8v_one _)
    obtain ⟨sb, hsb⟩ : ∃ sb, sb = sealB (crc 0#32 p) := ⟨_, rfl⟩
    have HSLN : Hid (sb.length = 4) := Lib.hid (by rw [hsb]; rfl)
    rw [← hsb] at hop hoe hcs
    have HCS := Lib.hid hcs
    have HOP := Lib.hid hop
    have HOE := Lib.hid hoe
    have hnb : n < 1099511627776 := by omega
    have hnc : n ≤ c := by omega
    have hz := z4_run
    clear hs hc hq hl hR h4 hn hp ht hpl htl hps hts hop hoe hcs hsb
    go_enter Tryd.func17, Tryd.ntmps17
    go_wp2_with fail
    refine HS.mono ?_
    rintro e w2 ⟨rfl, hb2⟩
    have HB2 := Lib.hid hb2
    clear hb2 HS
    go_upto_region 5 with (refine wpList_store_row rfl 76 _ _ rfl w2.heap.size _ rfl rfl 76 _ (Has.made' w2 76 _ z4 rfl) HK.out HL.out HO.out ?_)
    clear hz
    have h3 : Has ((w2.alloc (.cells z4.toArray 76)).setRow w2.heap.size cs.toArray) w2.heap.size 76 cs := (Has.made' w2 76 _ z4 rfl).rowl cs
    have hB3 : Below w.heap.size w ((w2.alloc (.cells z4.toArray 76)).setRow w2.heap.size cs.toArray) := below_row (HB2.out.alloc HB2.out.size _) HB2.out.size _
    generalize hw3 : World.setRow _ _ _ = w3 at *
    clear hw3
    have he := equal_any sb t (some ⟨w2.heap.size, 0, none⟩) (cutQ q c n) 4 (c - n) w3.drew (by have := Sees.of_has h3 h3.lt; rw [HCS.out] at this; exact this) ((HT.out.keep hB3.drew).more hB3.size)
    rw [HSLN.out, HTL.out] at he
    have HE := Lib.hid he
    have HB3 := Lib.hid hB3.drew
    clear h3 hB3 he
    generalize w2.heap.size = g at *
    clear HB2
    refine wp_region_ord [(0, true), (1, true), (2, true), (3, true), (4, false), (5, true)] (by kernel_rfl) (by kernel_rfl) (by kernel_rfl) ?_
    simp only [pickOps, List.getElem?_cons_zero, List.getElem?_cons_succ]
    (repeat (refine ord_pure (v := ?_) (by rfl) ?_ ?_; rotate_left; (· intro w'; go_simp; try with_reducible rfl); try simp only [Act.put, List.setIfInBounds_toArray, List.set_cons_zero, List.set_cons_succ]))
    refine ord_step (by rfl) (fun K hK => ?_)
    go_wp2_with fail
    refine HE.out.mono ?_
    rintro e w4 ⟨rfl, rfl⟩
    clear HE
    generalize w3.drew = w3 at *
    by_cases hd : sb = t
    · rw [decide_eq_true hd] at HOP HOE ⊢
      rw [if_pos rfl] at HOE
      clear hd
      go_wp2_with fail
      (repeat (refine ord_pure (v := ?_) (by rfl) ?_ ?_; rotate_left; (· intro w'; go_simp; try with_reducible rfl); try simp only [Act.put, List.setIfInBounds_toArray, List.set_cons_zero, List.set_cons_succ]))
      refine ord_nil ?_
      have hcl := clone_any p q c w3 ((HP.out.keep HB3.out).more HB3.out.size) HQ.out (by rw [HPL.out]; omega)
      rw [HPL.out] at hcl
      have HC := Lib.hid hcl
      clear hcl
      go_wp2_with fail
      refine HC.out.mono ?_
      rintro e w4 ⟨v, rfl, hv, hb4⟩
      have HV := Lib.hid hv
      have HB4 := Lib.hid (HB3.out.trans (hb4.mono HB3.out.size))
      clear hv hb4
      go_wp2_with fail
      go_ret2
      exact ⟨v, by rw [HOP.out]; rfl, by rw [HOE.out]; exact HV.out, HB4.out⟩
    · rw [decide_eq_false hd] at HOP HOE ⊢
      rw [if_neg (by simp)] at HOE
      clear hd
      go_wp2_with fail
      (repeat (refine ord_pure (v := ?_) (by rfl) ?_ ?_; rotate_left; (· intro w'; go_simp; try with_reducible rfl); try simp only [Act.put, List.setIfInBounds_toArray, List.set_cons_zero, List.set_cons_succ]))
      refine ord_nil ?_
      go_wp2_with fail
      go_ret2
      exact ⟨.slice none 0 0, by rw [HOP.out]; rfl, by rw [HOE.out]; exact Bs.nil _, HB3.out⟩
end Go.Proofs.YtpfckamobjcdhabDoor
