/- The law CauseKnown: it answers true, for whatever fmt's stop answers, so long as its one text is as told (written by gen_flaw.py). Conditions: the two variables as laid. -/
import Derived.Test.YtgaphplndpdhaaaFmtFco
import Derived.Test.YtgaphplndpdhaaaFmtFerr
import Derived.Test.YtgaphplndpdhaaaFmtFis
import Derived.Test.YtgaphplndpdhaaaFmtFmt
namespace Go.Proofs.YtgaphplndpdhaaaFmt
open Go.RowKit Go.Extern.Stop Go.Stop Go.Extern
/-- The law's six errors, known whole; all below as it was. -/
structure S6 (w0 : World) (ga gw gb gc go gd : Nat) (w : World) : Prop where
  below : Below w0.heap.size w0 w
  A : IsC w ga (stg 1) 1 (.iface 26 (.int .i64 14))
  W : IsW w gw moreText (ofC ga)
  B : IsC w gb (stg 5) (-2) (ofW gw)
  C : IsC w gc (stg 5) 3 (.iface 26 (.int .i64 1))
  O : IsS w go ⟨#[111, 116, 104, 101, 114]⟩
  D : IsC w gd (stg 0) 0 (ofS go)
theorem S6.keep {w0 w w' : World} {ga gw gb gc go gd : Nat} (h : S6 w0 ga gw gb gc go gd w) (hb : Below w.heap.size w w') : S6 w0 ga gw gb gc go gd w' :=
  ⟨h.below.trans (hb.mono h.below.size), Has.keep h.A hb (Has.lt h.A), Has.keep h.W hb (Has.lt h.W), Has.keep h.B hb (Has.lt h.B), Has.keep h.C hb (Has.lt h.C), Has.keep h.O hb (Has.lt h.O), Has.keep h.D hb (Has.lt h.D)⟩
theorem S6.alloc {w0 w : World} {ga gw gb gc go gd : Nat} (h : S6 w0 ga gw gb gc go gd w) (o : Obj) : S6 w0 ga gw gb gc go gd (w.alloc o) :=
  h.keep ((Below.refl _ _).alloc (Nat.le_refl _) o)
/-- And the empty Cause, and the two steps. -/
structure S7 (w0 : World) (ga gw gb gc go gd ge p : Nat) (w : World) : Prop where
  s : S6 w0 ga gw gb gc go gd w
  E : IsC w ge (stg 0) 1 .nilIface
  p0 : w.cell? ⟨p, 0, none⟩ = some (.int .i64 (-2))
  p1 : w.cell? ⟨p, 1, none⟩ = some (.int .i64 1)
theorem S7.keep {w0 w w' : World} {ga gw gb gc go gd ge p : Nat} (h : S7 w0 ga gw gb gc go gd ge p w) (hb : Below w.heap.size w w') : S7 w0 ga gw gb gc go gd ge p w' :=
  ⟨h.s.keep hb, Has.keep h.E hb (Has.lt h.E), (hb.cell (p := ⟨p, 0, none⟩) (cell_lt h.p0)).trans h.p0, (hb.cell (p := ⟨p, 1, none⟩) (cell_lt h.p1)).trans h.p1⟩
theorem S7.alloc {w0 w : World} {ga gw gb gc go gd ge p : Nat} (h : S7 w0 ga gw gb gc go gd ge p w) (o : Obj) : S7 w0 ga gw gb gc go gd ge p (w.alloc o) :=
  h.keep ((Below.refl _ _).alloc (Nat.le_refl _) o)
set_option maxRecDepth 100000 in
set_option maxHeartbeats 8000000 in
theorem known_walk (F : Interp) (w : World) (a : Addr) (cap : Nat) (hF : F.answers w.tape) (hL : Laid w a cap)
    (hT : FmtStop.textOf (F "fmt.errorf" (fReading (⟨#[104, 101, 108, 108, 111, 64, 49, 58, 32, 101, 114, 114, 111, 114, 32, 49, 52]⟩ : ByteArray).data.toList) 0) = moreText) :
    Calls Tryf.prog 3 #[] w fun e w' => e = .returned (.bool true) ∧ Below w.heap.size w w' := by
  have HL := Lib.hid hL
  have HF := Lib.hid hF
  have HT := Lib.hid hT
  have kL : Hid (∀ w', Below w.heap.size w w' → Laid w' a cap) := Lib.hid fun w' hb => hL.keep hb
  have hN := Lib.hid (fun w => new_any ⟨#[111, 116, 104, 101, 114]⟩ w)
  have hSn : Hid (∀ (x : Value) (w : World), (Calls Tryf.prog 24 #[x] w fun e w' => e = .returned (.pointer none) ∧ Below w.heap.size w w') → Calls Tryf.prog 9 #[x] w fun e w' => e = .returned (.string ⟨#[]⟩) ∧ Below w.heap.size w w') := Lib.hid fun x w h => stage_none x w h
  have mE : ∀ (v : Value) (w : World), (Go.method 236 31 v "Error").run Tryf.prog w = .ok (12, v) w := fun v w => by kernel_rfl
  unfold ofS at hN
  have t0 : True := True.intro
  clear hL hF hT
  go_enter Tryf.func3, Tryf.ntmps3
  go_wp2_with (first
    | (go_at_call 4; have t1 := t0; clear t0; refine (awake_any w a cap HL.out).mono ?_; rintro e w1 ⟨rfl, B1⟩)
    | (go_at_call 5; have t2 := t1; clear t1; refine (in_any 1 (by omega) 1 26 (.int .i64 14) w1 a cap (kL.out _ B1)).mono ?_; rintro e w2 ⟨rfl, hw2⟩; have A2 : IsC w2 w1.heap.size (stg 1) 1 (.iface 26 (.int .i64 14)) := (by rw [hw2]; exact Has.made' _ _ _ _ rfl); have B2 : Below w.heap.size w w2 := (by rw [hw2]; exact B1.alloc B1.size _); clear hw2)
    | (go_at_call 6; have t3 := t2; clear t2; refine (errorf_any F ⟨#[104, 101, 108, 108, 111, 64, 49, 58, 32, 101, 114, 114, 111, 114, 32, 49, 52]⟩ w1.heap.size w2.heap.size (w2.alloc (.cells #[.iface 31 (.pointer (some ⟨w1.heap.size, 0, none⟩))] 20)) (by show F.answers w2.tape; rw [B2.tape]; exact HF.out) (by unfold ofC; simp) (errorA w1.heap.size _ (kL.out _ (B2.alloc B2.size _)).size (kL.out _ (B2.alloc B2.size _)).err (Has.alloc A2 _))).mono ?_; rintro e w4 ⟨w3, hb3, rfl, hw4⟩; have hb4 : Below (w2.alloc (.cells #[.iface 31 (.pointer (some ⟨w1.heap.size, 0, none⟩))] 20)).heap.size (w2.alloc (.cells #[.iface 31 (.pointer (some ⟨w1.heap.size, 0, none⟩))] 20)) w4 := (by rw [hw4]; exact (hb3.alloc hb3.size _).drew); have W4 : IsW w4 w3.heap.size moreText (ofC w1.heap.size) := (by rw [hw4, HT.out]; exact Has.made' _ _ _ _ rfl); have A4 : IsC w4 w1.heap.size (stg 1) 1 (.iface 26 (.int .i64 14)) := Has.keep (Has.alloc A2 _) hb4 (Has.lt (Has.alloc A2 _)); have B4 : Below w.heap.size w w4 := (B2.alloc B2.size _).trans (hb4.mono (B2.alloc B2.size (.cells #[.iface 31 (.pointer (some ⟨w1.heap.size, 0, none⟩))] 20)).size); clear hb4 hb3 hw4 A2 B2)
    | (go_at_call 5; have t4 := t3; clear t3; refine (in_any 5 (by omega) (-2) 43 (.pointer (some ⟨w3.heap.size, 0, none⟩)) w4 a cap (kL.out _ B4)).mono ?_; rintro e w5 ⟨rfl, hw5⟩; have hk : Below w4.heap.size w4 w5 := (by rw [hw5]; exact (Below.refl _ _).alloc (Nat.le_refl _) _); have b5 : IsC w5 w4.heap.size (stg 5) (-2) (ofW w3.heap.size) := (by rw [hw5]; exact Has.made' _ _ _ _ rfl); have A5 : IsC w5 w1.heap.size (stg 1) 1 (.iface 26 (.int .i64 14)) := Has.keep A4 hk (Has.lt A4); have W5 : IsW w5 w3.heap.size moreText (ofC w1.heap.size) := Has.keep W4 hk (Has.lt W4); have B5 := B4.trans (hk.mono B4.size); clear hk hw5 B4 A4 W4)
    | (go_at_call 5; have t5 := t4; clear t4; refine (in_what 3 26 (.int .i64 1) w5 a cap (kL.out _ B5)).mono ?_; rintro e w6 ⟨rfl, hw6⟩; have hk : Below w5.heap.size w5 w6 := (by rw [hw6]; exact (Below.refl _ _).alloc (Nat.le_refl _) _); have c6 : IsC w6 w5.heap.size (stg 5) 3 (.iface 26 (.int .i64 1)) := (by rw [hw6]; exact Has.made' _ _ _ _ rfl); have A6 : IsC w6 w1.heap.size (stg 1) 1 (.iface 26 (.int .i64 14)) := Has.keep A5 hk (Has.lt A5); have W6 : IsW w6 w3.heap.size moreText (ofC w1.heap.size) := Has.keep W5 hk (Has.lt W5); have b6 : IsC w6 w4.heap.size (stg 5) (-2) (ofW w3.heap.size) := Has.keep b5 hk (Has.lt b5); have B6 := B5.trans (hk.mono B5.size); clear hk hw6 B5 A5 W5 b5)
    | (go_at_call 7; have t6 := t5; clear t5; refine (hN.out w6).mono ?_; rintro e w7 ⟨rfl, hw7⟩; have hk : Below w6.heap.size w6 w7 := (by rw [hw7]; exact (Below.refl _ _).alloc (Nat.le_refl _) _); have o7 : IsS w7 w6.heap.size ⟨#[111, 116, 104, 101, 114]⟩ := (by rw [hw7]; exact Has.made' _ _ _ _ rfl); have A7 : IsC w7 w1.heap.size (stg 1) 1 (.iface 26 (.int .i64 14)) := Has.keep A6 hk (Has.lt A6); have W7 : IsW w7 w3.heap.size moreText (ofC w1.heap.size) := Has.keep W6 hk (Has.lt W6); have b7 : IsC w7 w4.heap.size (stg 5) (-2) (ofW w3.heap.size) := Has.keep b6 hk (Has.lt b6); have c7 : IsC w7 w5.heap.size (stg 5) 3 (.iface 26 (.int .i64 1)) := Has.keep c6 hk (Has.lt c6); have B7 := B6.trans (hk.mono B6.size); clear hk hw7 B6 A6 W6 b6 c6)
    | (go_at_call 5; have t7 := t6; clear t6; refine (in_any 0 (by omega) 0 44 (.pointer (some ⟨w6.heap.size, 0, none⟩)) w7 a cap (kL.out _ B7)).mono ?_; rintro e w8 ⟨rfl, hw8⟩; have hk : Below w7.heap.size w7 w8 := (by rw [hw8]; exact (Below.refl _ _).alloc (Nat.le_refl _) _); have d8 : IsC w8 w7.heap.size (stg 0) 0 (ofS w6.heap.size) := (by rw [hw8]; exact Has.made' _ _ _ _ rfl); have A8 : IsC w8 w1.heap.size (stg 1) 1 (.iface 26 (.int .i64 14)) := Has.keep A7 hk (Has.lt A7); have W8 : IsW w8 w3.heap.size moreText (ofC w1.heap.size) := Has.keep W7 hk (Has.lt W7); have b8 : IsC w8 w4.heap.size (stg 5) (-2) (ofW w3.heap.size) := Has.keep b7 hk (Has.lt b7); have c8 : IsC w8 w5.heap.size (stg 5) 3 (.iface 26 (.int .i64 1)) := Has.keep c7 hk (Has.lt c7); have o8 : IsS w8 w6.heap.size ⟨#[111, 116, 104, 101, 114]⟩ := Has.keep o7 hk (Has.lt o7); have B8 := B7.trans (hk.mono B7.size); clear hk hw8 B7 A7 W7 b7 c7 o7; have S8 : S6 w w1.heap.size w3.heap.size w4.heap.size w5.heap.size w6.heap.size w7.heap.size w8 := ⟨B8, A8, W8, b8, c8, o8, d8⟩; clear B8 A8 W8 b8 c8 o8 d8)
    | (go_at_call 8; have t8 := t7; clear t7; refine (steps_W w4.heap.size w3.heap.size w1.heap.size (stg 5) moreText (stg 1) (-2) 1 14 _ (kL.out _ S8.below).size (kL.out _ S8.below).err S8.B S8.W S8.A).mono ?_; rintro e w9 ⟨p, pc, rfl, q0, q1, hb⟩; have S9 := S8.keep hb; clear S8 hb)
    | (go_at_call 5; have t9 := t8; clear t8; refine (in_nil _ 1 _).mono ?_; rintro e w10 ⟨rfl, hw10⟩; have S : S7 w w1.heap.size w3.heap.size w4.heap.size w5.heap.size w6.heap.size w7.heap.size w9.heap.size p w10 := (by rw [hw10]; exact ⟨S9.alloc _, Has.made' _ _ _ _ rfl, (World.cell?_alloc_lt _ _ _ (cell_lt q0)).trans q0, (World.cell?_alloc_lt _ _ _ (cell_lt q1)).trans q1⟩); clear hw10 S9 q0 q1)
    | (go_at_call 12; have t10 := t9; clear t9; refine (errorB w4.heap.size w3.heap.size w1.heap.size _ (kL.out _ S.s.below).size (kL.out _ S.s.below).err S.s.W S.s.B).mono ?_; rintro e w11 ⟨rfl, hb⟩; replace S := S.keep hb; clear hb)
    | (go_at_call 9; have t11 := t10; clear t10; refine (stage_W w4.heap.size w3.heap.size w1.heap.size (stg 5) moreText ⟨#[104, 101, 108, 108, 111]⟩ (-2) 1 14 _ (kL.out _ S.s.below).size (kL.out _ S.s.below).err S.s.B S.s.W S.s.A).mono ?_; rintro e w12 ⟨rfl, hb⟩; replace S := S.keep hb; clear hb; have c0 := S.p0; have c1 := S.p1)
    | (go_at_call 10; have t12 := t11; clear t11; refine (once_W w4.heap.size w3.heap.size w1.heap.size (stg 5) moreText (stg 1) (-2) 1 14 false _ (kL.out _ S.s.below).size (kL.out _ S.s.below).err S.s.B S.s.W S.s.A (by decide +kernel)).mono ?_; rintro e w13 ⟨rfl, hb⟩; replace S := S.keep hb; clear hb; clear c0 c1)
    | (go_at_call 5; have t13 := t12; clear t12; refine (in_any 1 (by omega) 9 31 (.pointer (some ⟨w4.heap.size, 0, none⟩)) w13 a cap (kL.out _ S.s.below)).mono ?_; rintro e w14 ⟨rfl, hw14⟩; have K14 : IsC w14 w13.heap.size (stg 1) 9 (ofC w4.heap.size) := (by rw [hw14]; exact Has.made' _ _ _ _ rfl); have hb : Below w13.heap.size w13 w14 := (by rw [hw14]; exact (Below.refl _ _).alloc (Nat.le_refl _) _); clear hw14; replace S := S.keep hb; clear hb)
    | (go_at_call 10; have t14 := t13; clear t13; refine (once_3 w13.heap.size w4.heap.size w3.heap.size w1.heap.size (stg 1) (stg 5) moreText (stg 1) 9 (-2) 1 14 _ (kL.out _ S.s.below).size (kL.out _ S.s.below).err K14 S.s.B S.s.W S.s.A (by decide +kernel) (by decide +kernel)).mono ?_; rintro e w15 ⟨rfl, hb⟩; replace S := S.keep hb; clear hb; clear K14)
    | (go_at_call 12; have t15 := t14; clear t14; refine (errorC w5.heap.size _ (kL.out _ S.s.below).size (kL.out _ S.s.below).err S.s.C).mono ?_; rintro e w16 ⟨rfl, hb⟩; replace S := S.keep hb; clear hb)
    | (go_at_call 11; have t16 := t15; clear t15; refine (code_cs w7.heap.size (stg 0) 0 ⟨w6.heap.size, 0, none⟩ _ (kL.out _ S.s.below).size (kL.out _ S.s.below).err S.s.D).mono ?_; rintro e w17 ⟨rfl, hb⟩; replace S := S.keep hb; clear hb)
    | (go_at_call 11; have t17 := t16; clear t16; refine (code_nil _).mono ?_; rintro e w18 ⟨rfl, rfl⟩)
    | (go_at_call 11; have t18 := t17; clear t17; refine (code_str ⟨w6.heap.size, 0, none⟩ _ (kL.out _ S.s.below).size (kL.out _ S.s.below).err).mono ?_; rintro e w19 ⟨rfl, hb⟩; replace S := S.keep hb; clear hb)
    | (go_at_call 11; have t19 := t18; clear t18; refine (code_num 11 _ (kL.out _ S.s.below).size (kL.out _ S.s.below).err).mono ?_; rintro e w20 ⟨rfl, hb⟩; replace S := S.keep hb; clear hb)
    | (go_at_call 9; have t20 := t19; clear t19; refine (hSn.out (.iface 44 (.pointer (some ⟨w6.heap.size, 0, none⟩))) _ (out_str ⟨w6.heap.size, 0, none⟩ _ (kL.out _ S.s.below).size (kL.out _ S.s.below).err)).mono ?_; rintro e w21 ⟨rfl, hb⟩; replace S := S.keep hb; clear hb)
    | (go_at_call 9; have t21 := t20; clear t20; refine (hSn.out .nilIface _ (out_nil _)).mono ?_; rintro e w22 ⟨rfl, hb⟩; replace S := S.keep hb; clear hb)
    | (go_at_call 8; have t22 := t21; clear t21; refine (steps_none .nilIface _ (out_nil _)).mono ?_; rintro e w23 ⟨rfl, hb⟩; replace S := S.keep hb; clear hb)
    | (go_at_call 10; have t23 := t22; clear t22; refine (once_none .nilIface _ (out_nil _)).mono ?_; rintro e w24 ⟨rfl, hb⟩; replace S := S.keep hb; clear hb)
    | (go_at_call 12; have t24 := t23; clear t23; refine (errorE w9.heap.size _ (kL.out _ S.s.below).size (kL.out _ S.s.below).err S.E).mono ?_; rintro e w25 ⟨rfl, hb⟩; replace S := S.keep hb; clear hb)
    | (go_at_call 13; have t25 := t24; clear t24; refine (unwrap_any w9.heap.size (stg 0) 1 .nilIface _ S.E).mono ?_; rintro e w26 ⟨rfl, rfl⟩)
    | (go_at_call 14; have t26 := t25; clear t25; refine (fis_s w7.heap.size w6.heap.size (stg 0) 0 _ (kL.out _ S.s.below).size (kL.out _ S.s.below).err S.s.D).mono ?_; rintro e w27 ⟨rfl, hb⟩; replace S := S.keep hb; clear hb)
    | (go_at_call 14; have t27 := t26; clear t26; refine (fis_n w4.heap.size w3.heap.size w1.heap.size (stg 5) moreText (stg 1) (-2) 1 14 14 _ (kL.out _ S.s.below).size (kL.out _ S.s.below).err S.s.B S.s.W S.s.A).mono ?_; rintro e w28 ⟨rfl, hb⟩; replace S := S.keep hb; clear hb)
    | (go_at_call 14; have t28 := t27; clear t27; refine (fis_c w4.heap.size w3.heap.size w1.heap.size w28.heap.size (stg 5) moreText (stg 1) ⟨#[104, 101, 108, 108, 111]⟩ (-2) 1 99 14 true (w28.alloc (.cells #[.string ⟨#[104, 101, 108, 108, 111]⟩, .int .i64 99, .nilIface] 33)) (kL.out _ (S.alloc (.cells #[.string ⟨#[104, 101, 108, 108, 111]⟩, .int .i64 99, .nilIface] 33)).s.below).size (kL.out _ (S.alloc (.cells #[.string ⟨#[104, 101, 108, 108, 111]⟩, .int .i64 99, .nilIface] 33)).s.below).err (S.alloc (.cells #[.string ⟨#[104, 101, 108, 108, 111]⟩, .int .i64 99, .nilIface] 33)).s.B (S.alloc (.cells #[.string ⟨#[104, 101, 108, 108, 111]⟩, .int .i64 99, .nilIface] 33)).s.W (S.alloc (.cells #[.string ⟨#[104, 101, 108, 108, 111]⟩, .int .i64 99, .nilIface] 33)).s.A (Has.made' _ _ _ _ rfl) (Nat.ne_of_lt (Has.lt S.s.B)) (Nat.ne_of_lt (Has.lt S.s.A)) (by decide +kernel) (by decide +kernel)).mono ?_; rintro e w29 ⟨rfl, hb⟩; replace S := (S.alloc (.cells #[.string ⟨#[104, 101, 108, 108, 111]⟩, .int .i64 99, .nilIface] 33)).keep hb; clear hb)
    | (go_at_call 14; have t29 := t28; clear t28; refine (fis_held w4.heap.size w3.heap.size w1.heap.size w29.heap.size (stg 5) moreText (stg 1) ⟨#[104, 101, 108, 108, 111]⟩ (-2) 1 0 14 14 true (w29.alloc (.cells #[.string ⟨#[104, 101, 108, 108, 111]⟩, .int .i64 0, .iface 26 (.int .i64 14)] 33)) (kL.out _ (S.alloc (.cells #[.string ⟨#[104, 101, 108, 108, 111]⟩, .int .i64 0, .iface 26 (.int .i64 14)] 33)).s.below).size (kL.out _ (S.alloc (.cells #[.string ⟨#[104, 101, 108, 108, 111]⟩, .int .i64 0, .iface 26 (.int .i64 14)] 33)).s.below).err (S.alloc (.cells #[.string ⟨#[104, 101, 108, 108, 111]⟩, .int .i64 0, .iface 26 (.int .i64 14)] 33)).s.B (S.alloc (.cells #[.string ⟨#[104, 101, 108, 108, 111]⟩, .int .i64 0, .iface 26 (.int .i64 14)] 33)).s.W (S.alloc (.cells #[.string ⟨#[104, 101, 108, 108, 111]⟩, .int .i64 0, .iface 26 (.int .i64 14)] 33)).s.A (Has.made' _ _ _ _ rfl) (Nat.ne_of_lt (Has.lt S.s.B)) (Nat.ne_of_lt (Has.lt S.s.A)) (by decide +kernel) (by decide +kernel)).mono ?_; rintro e w30 ⟨rfl, hb⟩; replace S := (S.alloc (.cells #[.string ⟨#[104, 101, 108, 108, 111]⟩, .int .i64 0, .iface 26 (.int .i64 14)] 33)).keep hb; clear hb)
    | (go_at_call 14; have t30 := t29; clear t29; refine (fis_n w4.heap.size w3.heap.size w1.heap.size (stg 5) moreText (stg 1) (-2) 1 14 1 _ (kL.out _ S.s.below).size (kL.out _ S.s.below).err S.s.B S.s.W S.s.A).mono ?_; rintro e w31 ⟨rfl, hb⟩; replace S := S.keep hb; clear hb))
  go_ret
  exact ⟨rfl, S.s.below⟩
end Go.Proofs.YtgaphplndpdhaaaFmt
