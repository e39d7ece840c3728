/- BitsJoin returns true. -/
import Derived.Test.YticbbldlhbooeaaBitsHead
import Derived.Test.YticbbldlhbooeaaBitsWide
import Derived.Test.YticbbldlhbooeaaBitsRef6
import Derived.Test.YticbbldlhbooeaaBitsBack
namespace Go.Proofs.Yticbbldlhbooeaa
open Go.RowKit
set_option linter.unusedVariables false

structure Quad (w0 w : World) (g h : Nat) (a1 : Option Addr) (l1 c1 : Nat) (N1 : Int) (p1 : List Nat) (a2 : Option Addr) (l2 c2 : Nat) (N2 : Int) (p2 : List Nat) (a3 : Option Addr) (l3 c3 : Nat) (N3 : Int) (p3 : List Nat) (a4 : Option Addr) (l4 c4 : Nat) (N4 : Int) (p4 : List Nat) : Prop where
  xa : BitsBox w (g + 1) a1 l1 c1 N1
  xb : BitsBox w (g + 2) a2 l2 c2 N2
  xc : BitsBox w (g + 3) a3 l3 c3 N3
  xx : BitsBox w h a4 l4 c4 N4
  ya : BytesAt w a1 l1 c1 p1
  yb : BytesAt w a2 l2 c2 p2
  yc : BytesAt w a3 l3 c3 p3
  yx : BytesAt w a4 l4 c4 p4
  bel : Below w0.heap.size w0 w
theorem Quad.below {w0 w w' : World} {g h : Nat} {a1 : Option Addr} {l1 c1 : Nat} {N1 : Int} {p1 : List Nat} {a2 : Option Addr} {l2 c2 : Nat} {N2 : Int} {p2 : List Nat} {a3 : Option Addr} {l3 c3 : Nat} {N3 : Int} {p3 : List Nat} {a4 : Option Addr} {l4 c4 : Nat} {N4 : Int} {p4 : List Nat} (q : Quad w0 w g h a1 l1 c1 N1 p1 a2 l2 c2 N2 p2 a3 l3 c3 N3 p3 a4 l4 c4 N4 p4) (hb : Below w.heap.size w w') : Quad w0 w' g h a1 l1 c1 N1 p1 a2 l2 c2 N2 p2 a3 l3 c3 N3 p3 a4 l4 c4 N4 p4 :=
  ⟨q.xa.below hb, q.xb.below hb, q.xc.below hb, q.xx.below hb, q.ya.mono hb, q.yb.mono hb, q.yc.mono hb, q.yx.mono hb, below_then q.bel hb⟩
set_option maxRecDepth 10000 in
set_option maxHeartbeats 16000000 in
theorem bitsjoin_near (w : World) (aa : Option Addr) (la ca : Nat) (pa : List Nat) (Na : Int) (ab : Option Addr) (lb cb : Nat) (pb : List Nat) (Nb : Int) (ac : Option Addr) (lc cc : Nat) (pc : List Nat) (Nc : Int) (at_ : Int) (wd : Nat) (hwd : wd < 256) (hat1 : -9223372036854775808 ≤ at_) (hat2 : at_ ≤ 9223372036854775807) (hN1a : -9223372036854775808 ≤ Na) (hN2a : Na ≤ 9223372036854775807) (hya : BytesAt w aa la ca pa) (hN1b : -9223372036854775808 ≤ Nb) (hN2b : Nb ≤ 9223372036854775807) (hyb : BytesAt w ab lb cb pb) (hN1c : -9223372036854775808 ≤ Nc) (hN2c : Nc ≤ 9223372036854775807) (hyc : BytesAt w ac lc cc pc) (hfa : la ≤ 100) (hfb : lb ≤ 100) (hfc : lc ≤ 100) (hra : RightI pa Na) (hrb : RightI pb Nb) (hrc : RightI pc Nc) (dA : List Nat) (hba : IsBits dA) (hpa : pa = pack dA) (hla : dA.length ≤ 1000) (hna : Na = (dA.length : Int)) (dB : List Nat) (hbb : IsBits dB) (hpb : pb = pack dB) (hlb : dB.length ≤ 1000) (hnb : Nb = (dB.length : Int)) (dC : List Nat) (hbc : IsBits dC) (hpc : pc = pack dC) (hlc : dC.length ≤ 1000) (hnc : Nc = (dC.length : Int)) (dX : List Nat) (hX : dX = dA ++ dB) (K : Nat) (hK : (wd : Int) % 65 = (K : Int)) (at0 : 0 ≤ at_) (at1 : at_ ≤ Nb) (at3 : (K : Int) ≤ Nb - at_) (v : Nat) (ht1 : takeS dB at_ (K : Int) = (v, 0)) (ht2 : takeS dX (Na + at_) (K : Int) = (v, 0)) :
    Calls Try.prog 5 #[.agg #[.slice aa la ca, .int .i64 Na, .slice ab lb cb, .int .i64 Nb, .slice ac lc cc, .int .i64 Nc, .int .i64 at_, .int .u8 (wd : Int)]] w fun e w' => e = .returned (.bool true) ∧ Below w.heap.size w w' := by
  have hsa := hya.small
  have hsb := hyb.small
  have hsc := hyc.small
  have dfa : decide (la ≤ 100) = true := by simpa using hfa
  have dfb : decide (lb ≤ 100) = true := by simpa using hfb
  have dfc : decide (lc ≤ 100) = true := by simpa using hfc
  have dra : decide (RightI pa Na) = true := by simpa using hra
  have HRa := Lib.hid dra
  clear dra
  have drb : decide (RightI pb Nb) = true := by simpa using hrb
  have HRb := Lib.hid drb
  clear drb
  have drc : decide (RightI pc Nc) = true := by simpa using hrc
  have HRc := Lib.hid drc
  clear drc
  have hXb : IsBits dX := by rw [hX]; exact hba.append hbb
  have hXl : (dX.length : Int) = Na + Nb := by rw [hX, List.length_append]; omega
  obtain ⟨NX, hNX⟩ : ∃ NX : Int, NX = (dX.length : Int) := ⟨_, rfl⟩
  have hXN : Na + Nb = NX := by omega
  have hNX0 : 0 ≤ NX := by omega
  have hwrap : IntKind.i64.wrap NX = NX := by rw [IntKind.wrap_i64]; omega
  have hNX1 : NX ≤ 2000 := by omega
  have hXs : dX.length ≤ 2000 := by omega
  have hNa0 : 0 ≤ Na := by omega
  have hNa1 : Na ≤ 1000 := by omega
  have hNb0 : 0 ≤ Nb := by omega
  have hNb1 : Nb ≤ 1000 := by omega
  have hrX : decide (RightI (pack dX) NX) = true := by
    rw [decide_eq_true_iff, hNX]
    exact ⟨by omega, by rw [Int.toNat_natCast]; exact pack_right hXb⟩
  have HRX := Lib.hid hrX
  have hK64 : K ≤ 64 := by omega
  obtain ⟨dD, hD⟩ : ∃ dD, dD = dX ++ dC := ⟨_, rfl⟩
  obtain ⟨dE, hE⟩ : ∃ dE, dE = dB ++ dC := ⟨_, rfl⟩
  have hEb : IsBits dE := by rw [hE]; exact hbb.append hbc
  have hEl : dE.length ≤ 2000 := by rw [hE, List.length_append]; omega
  have hDE : dA ++ dE = dD := by rw [hD, hE, hX, List.append_assoc]
  have HD := Lib.hid hD
  have HE := Lib.hid hE
  have HDE := Lib.hid hDE
  clear hD hE hDE
  have HX := Lib.hid hX
  have HNX := Lib.hid hNX
  have HNa := Lib.hid hna
  have HNb := Lib.hid hnb
  have HNc := Lib.hid hnc
  have HPa := Lib.hid hpa
  have HPb := Lib.hid hpb
  have HPc := Lib.hid hpc
  clear hX hNX hna hnb hnc hpa hpb hpc hXl hrX
  have g1 : decide (at_ < 0) = false := by simp; omega
  have g2 : decide (Nb < at_) = false := by simp; omega
  have g3 : decide (Nb - at_ < (K : Int)) = false := by simp; omega
  have HT1 := Lib.hid ht1
  have HT2 := Lib.hid ht2
  clear ht1 ht2
  obtain ⟨W4, hW4⟩ : ∃ W4, W4 = ((((w.alloc (.cells #[.slice aa la ca, .int .i64 Na, .slice ab lb cb, .int .i64 Nb, .slice ac lc cc, .int .i64 Nc, .int .i64 at_, .int .u8 (wd : Int)] 47)).alloc (.cells #[.slice aa la ca, .int .i64 Na] 24)).alloc (.cells #[.slice ab lb cb, .int .i64 Nb] 24)).alloc (.cells #[.slice ac lc cc, .int .i64 Nc] 24)) := ⟨_, rfl⟩
  have b0 : Below w.heap.size w W4 := by
    rw [hW4]
    exact (((((Below.refl _ _).alloc (Nat.le_refl _) _).alloc (by simp) _).alloc (by simp; omega) _).alloc (by simp; omega) _)
  have xa : BitsBox W4 (w.heap.size + 1) aa la ca Na := by
    rw [hW4]
    refine (Below.heap_alloc _ _ _ (by simp)).trans ((Below.heap_alloc _ _ _ (by simp)).trans ?_)
    have := World.alloc_heap_new (w.alloc (.cells #[.slice aa la ca, .int .i64 Na, .slice ab lb cb, .int .i64 Nb, .slice ac lc cc, .int .i64 Nc, .int .i64 at_, .int .u8 (wd : Int)] 47)) (.cells #[.slice aa la ca, .int .i64 Na] 24)
    rw [show (w.alloc (.cells #[.slice aa la ca, .int .i64 Na, .slice ab lb cb, .int .i64 Nb, .slice ac lc cc, .int .i64 Nc, .int .i64 at_, .int .u8 (wd : Int)] 47)).heap.size = w.heap.size + 1 from by simp] at this
    exact this
  have xb : BitsBox W4 (w.heap.size + 2) ab lb cb Nb := by
    rw [hW4]
    refine (Below.heap_alloc _ _ _ (by simp)).trans ?_
    have := World.alloc_heap_new ((w.alloc (.cells #[.slice aa la ca, .int .i64 Na, .slice ab lb cb, .int .i64 Nb, .slice ac lc cc, .int .i64 Nc, .int .i64 at_, .int .u8 (wd : Int)] 47)).alloc (.cells #[.slice aa la ca, .int .i64 Na] 24)) (.cells #[.slice ab lb cb, .int .i64 Nb] 24)
    rw [show ((w.alloc (.cells #[.slice aa la ca, .int .i64 Na, .slice ab lb cb, .int .i64 Nb, .slice ac lc cc, .int .i64 Nc, .int .i64 at_, .int .u8 (wd : Int)] 47)).alloc (.cells #[.slice aa la ca, .int .i64 Na] 24)).heap.size = w.heap.size + 2 from by simp] at this
    exact this
  have xc : BitsBox W4 (w.heap.size + 3) ac lc cc Nc := by
    rw [hW4]
    have := World.alloc_heap_new (((w.alloc (.cells #[.slice aa la ca, .int .i64 Na, .slice ab lb cb, .int .i64 Nb, .slice ac lc cc, .int .i64 Nc, .int .i64 at_, .int .u8 (wd : Int)] 47)).alloc (.cells #[.slice aa la ca, .int .i64 Na] 24)).alloc (.cells #[.slice ab lb cb, .int .i64 Nb] 24)) (.cells #[.slice ac lc cc, .int .i64 Nc] 24)
    rw [show (((w.alloc (.cells #[.slice aa la ca, .int .i64 Na, .slice ab lb cb, .int .i64 Nb, .slice ac lc cc, .int .i64 Nc, .int .i64 at_, .int .u8 (wd : Int)] 47)).alloc (.cells #[.slice aa la ca, .int .i64 Na] 24)).alloc (.cells #[.slice ab lb cb, .int .i64 Nb] 24)).heap.size = w.heap.size + 3 from by simp] at this
    exact this
  have ya := hya.mono b0
  have yb := hyb.mono b0
  have yc := hyc.mono b0
  go_enter Try.func5, Try.ntmps5
  go_wp2_with fail
  rw [← hW4]
  clear hW4
  refine (shown_any _).mono ?_
  rintro e ws ⟨rfl, bs1⟩
  have xa := xa.below bs1
  have xb := xb.below bs1
  have xc := xc.below bs1
  have ya := ya.mono bs1
  have yb := yb.mono bs1
  have yc := yc.mono bs1
  have Bel := below_then b0 bs1
  have xa_0 := xa.cell0
  have xa_1 := xa.cell1
  have xb_0 := xb.cell0
  have xb_1 := xb.cell1
  have xc_0 := xc.cell0
  have xc_1 := xc.cell1
  go_wp2_with fail
  refine (few_any _ aa la ca Na hsa).mono ?_
  rintro e wfa ⟨rfl, bfa⟩
  have xa := xa.below bfa
  have xb := xb.below bfa
  have xc := xc.below bfa
  have ya := ya.mono bfa
  have yb := yb.mono bfa
  have yc := yc.mono bfa
  have Bel := below_then Bel bfa
  have xa_0 := xa.cell0
  have xa_1 := xa.cell1
  have xb_0 := xb.cell0
  have xb_1 := xb.cell1
  have xc_0 := xc.cell0
  have xc_1 := xc.cell1
  rw [dfa]
  go_wp2_with fail
  refine (few_any _ ab lb cb Nb hsb).mono ?_
  rintro e wfb ⟨rfl, bfb⟩
  have xa := xa.below bfb
  have xb := xb.below bfb
  have xc := xc.below bfb
  have ya := ya.mono bfb
  have yb := yb.mono bfb
  have yc := yc.mono bfb
  have Bel := below_then Bel bfb
  have xa_0 := xa.cell0
  have xa_1 := xa.cell1
  have xb_0 := xb.cell0
  have xb_1 := xb.cell1
  have xc_0 := xc.cell0
  have xc_1 := xc.cell1
  rw [dfb]
  go_wp2_with fail
  refine (few_any _ ac lc cc Nc hsc).mono ?_
  rintro e wfc ⟨rfl, bfc⟩
  have xa := xa.below bfc
  have xb := xb.below bfc
  have xc := xc.below bfc
  have ya := ya.mono bfc
  have yb := yb.mono bfc
  have yc := yc.mono bfc
  have Bel := below_then Bel bfc
  have xa_0 := xa.cell0
  have xa_1 := xa.cell1
  have xb_0 := xb.cell0
  have xb_1 := xb.cell1
  have xc_0 := xc.cell0
  have xc_1 := xc.cell1
  rw [dfc]
  go_wp2_with fail
  refine (refright_any _ aa la ca pa Na hN1a hN2a (by omega) ya).mono ?_
  rintro e wra ⟨rfl, bra⟩
  have xa := xa.below bra
  have xb := xb.below bra
  have xc := xc.below bra
  have ya := ya.mono bra
  have yb := yb.mono bra
  have yc := yc.mono bra
  have Bel := below_then Bel bra
  have xa_0 := xa.cell0
  have xa_1 := xa.cell1
  have xb_0 := xb.cell0
  have xb_1 := xb.cell1
  have xc_0 := xc.cell0
  have xc_1 := xc.cell1
  rw [HRa.out]
  go_wp2_with fail
  refine (refright_any _ ab lb cb pb Nb hN1b hN2b (by omega) yb).mono ?_
  rintro e wrb ⟨rfl, brb⟩
  have xa := xa.below brb
  have xb := xb.below brb
  have xc := xc.below brb
  have ya := ya.mono brb
  have yb := yb.mono brb
  have yc := yc.mono brb
  have Bel := below_then Bel brb
  have xa_0 := xa.cell0
  have xa_1 := xa.cell1
  have xb_0 := xb.cell0
  have xb_1 := xb.cell1
  have xc_0 := xc.cell0
  have xc_1 := xc.cell1
  rw [HRb.out]
  go_wp2_with fail
  refine (refright_any _ ac lc cc pc Nc hN1c hN2c (by omega) yc).mono ?_
  rintro e wrc ⟨rfl, brc⟩
  have xa := xa.below brc
  have xb := xb.below brc
  have xc := xc.below brc
  have ya := ya.mono brc
  have yb := yb.mono brc
  have yc := yc.mono brc
  have Bel := below_then Bel brc
  have xa_0 := xa.cell0
  have xa_1 := xa.cell1
  have xb_0 := xb.cell0
  have xb_1 := xb.cell1
  have xc_0 := xc.cell0
  have xc_1 := xc.cell1
  rw [HRc.out]
  rw [HPa.out] at ya
  rw [HPb.out] at yb
  rw [HPc.out] at yc
  go_wp2_with fail
  refine (join_at _ _ _ _ _ _ _ dA dB hba hbb (by omega) (by omega) ya yb dX HX.out.symm _ _ HNa.out HNb.out).mono ?_
  rintro e wx ⟨ax, lx, cx, rfl, yx, bx⟩
  rw [← HNX.out]
  have xa := xa.below bx
  have xb := xb.below bx
  have xc := xc.below bx
  have ya := ya.mono bx
  have yb := yb.mono bx
  have yc := yc.mono bx
  have Bel := below_then Bel bx
  have xx : BitsBox (wx.alloc (.cells #[.slice ax lx cx, .int .i64 NX] 24)) wx.heap.size ax lx cx NX := World.alloc_heap_new _ _
  have xa := xa.below ((Below.refl wx.heap.size wx).alloc (Nat.le_refl _) (.cells #[.slice ax lx cx, .int .i64 NX] 24))
  have xb := xb.below ((Below.refl wx.heap.size wx).alloc (Nat.le_refl _) (.cells #[.slice ax lx cx, .int .i64 NX] 24))
  have xc := xc.below ((Below.refl wx.heap.size wx).alloc (Nat.le_refl _) (.cells #[.slice ax lx cx, .int .i64 NX] 24))
  have ya := ya.mono ((Below.refl wx.heap.size wx).alloc (Nat.le_refl _) (.cells #[.slice ax lx cx, .int .i64 NX] 24))
  have yb := yb.mono ((Below.refl wx.heap.size wx).alloc (Nat.le_refl _) (.cells #[.slice ax lx cx, .int .i64 NX] 24))
  have yc := yc.mono ((Below.refl wx.heap.size wx).alloc (Nat.le_refl _) (.cells #[.slice ax lx cx, .int .i64 NX] 24))
  have yx := yx.mono ((Below.refl wx.heap.size wx).alloc (Nat.le_refl _) (.cells #[.slice ax lx cx, .int .i64 NX] 24))
  have Bel := below_new Bel (.cells #[.slice ax lx cx, .int .i64 NX] 24)
  rw [← HPa.out] at ya
  rw [← HPb.out] at yb
  rw [← HPc.out] at yc
  have J0 : Quad w (wx.alloc (.cells #[.slice ax lx cx, .int .i64 NX] 24)).drew w.heap.size wx.heap.size aa la ca Na pa ab lb cb Nb pb ac lc cc Nc pc ax lx cx NX (pack dX) := ⟨xa.below (Below.refl _ _).drew, xb.below (Below.refl _ _).drew, xc.below (Below.refl _ _).drew, xx.below (Below.refl _ _).drew, ya.mono (Below.refl _ _).drew, yb.mono (Below.refl _ _).drew, yc.mono (Below.refl _ _).drew, yx.mono (Below.refl _ _).drew, Bel.drew⟩
  have q0 := J0.xa.cell0; have q1 := J0.xa.cell1; have q2 := J0.xb.cell0; have q3 := J0.xb.cell1; have q4 := J0.xc.cell0; have q5 := J0.xc.cell1; have q6 := J0.xx.cell0; have q7 := J0.xx.cell1
  have xa_0 := xa.cell0
  have xa_1 := xa.cell1
  have xb_0 := xb.cell0
  have xb_1 := xb.cell1
  have xc_0 := xc.cell0
  have xc_1 := xc.cell1
  have xx_0 := xx.cell0
  have xx_1 := xx.cell1
  go_wp2
  go_region_held3 (fun w' => Quad w w' w.heap.size wx.heap.size aa la ca Na pa ab lb cb Nb pb ac lc cc Nc pc ax lx cx NX (pack dX) ∧ w'.cell? ⟨w.heap.size + 1, 0, none⟩ = some (.slice aa la ca) ∧ w'.cell? ⟨w.heap.size + 1, 1, none⟩ = some (.int .i64 Na) ∧ w'.cell? ⟨w.heap.size + 2, 0, none⟩ = some (.slice ab lb cb) ∧ w'.cell? ⟨w.heap.size + 2, 1, none⟩ = some (.int .i64 Nb) ∧ w'.cell? ⟨w.heap.size + 3, 0, none⟩ = some (.slice ac lc cc) ∧ w'.cell? ⟨w.heap.size + 3, 1, none⟩ = some (.int .i64 Nc) ∧ w'.cell? ⟨wx.heap.size, 0, none⟩ = some (.slice ax lx cx) ∧ w'.cell? ⟨wx.heap.size, 1, none⟩ = some (.int .i64 NX))
    (first | exact ⟨J0, q0, q1, q2, q3, q4, q5, q6, q7⟩ | exact ⟨by assumption, z0, z1, z2, z3, z4, z5, z6, z7⟩)
    (first | (go_at_call 12; refine (refright_any _ ax lx cx (pack dX) NX (by omega) (by omega) (by have := yx.len_eq; rw [pack_length] at this; omega) J0.yx).mono ?_; rintro e w1 ⟨rfl, b1⟩; rw [HRX.out]; have J1 := J0.below b1; have z0 := J1.xa.cell0; have z1 := J1.xa.cell1; have z2 := J1.xb.cell0; have z3 := J1.xb.cell1; have z4 := J1.xc.cell0; have z5 := J1.xc.cell1; have z6 := J1.xx.cell0; have z7 := J1.xx.cell1) | (go_at_call_of 22 ax; refine (join_at _ _ _ _ _ _ _ dX dC hXb hbc (by omega) (by omega) J1.yx (by have := J1.yc; rw [HPc.out] at this; exact this) dD HD.out.symm _ _ HNX.out HNc.out).mono ?_; rintro e w2 ⟨a2, l2, c2, rfl, y2, b2⟩; have J2 := J1.below b2; have z0 := J2.xa.cell0; have z1 := J2.xa.cell1; have z2 := J2.xb.cell0; have z3 := J2.xb.cell1; have z4 := J2.xc.cell0; have z5 := J2.xc.cell1; have z6 := J2.xx.cell0; have z7 := J2.xx.cell1) | (go_at_call_of 22 a3; refine (join_at _ _ _ _ _ _ _ dA dE hba hEb (by omega) (by omega) (by have := J3.ya; rw [HPa.out] at this; exact this) y3 dD HDE.out _ _ HNa.out rfl).mono ?_; rintro e w4 ⟨a4, l4, c4, rfl, y4, b4⟩; have y2'' := y2'.mono b4; have J4 := J3.below b4; have z0 := J4.xa.cell0; have z1 := J4.xa.cell1; have z2 := J4.xb.cell0; have z3 := J4.xb.cell1; have z4 := J4.xc.cell0; have z5 := J4.xc.cell1; have z6 := J4.xx.cell0; have z7 := J4.xx.cell1) | (go_at_call_of 22 ab; refine (join_at _ _ _ _ _ _ _ dB dC hbb hbc (by omega) (by omega) (by have := J2.yb; rw [HPb.out] at this; exact this) (by have := J2.yc; rw [HPc.out] at this; exact this) dE HE.out.symm _ _ HNb.out HNc.out).mono ?_; rintro e w3 ⟨a3, l3, c3, rfl, y3, b3⟩; have y2' := y2.mono b3; have J3 := J2.below b3; have z0 := J3.xa.cell0; have z1 := J3.xa.cell1; have z2 := J3.xb.cell0; have z3 := J3.xb.cell1; have z4 := J3.xc.cell0; have z5 := J3.xc.cell1; have z6 := J3.xx.cell0; have z7 := J3.xx.cell1) | (go_at_call_of 15 a4; refine (refsame_same y2'' y4).mono ?_; rintro e w5 ⟨rfl, b5⟩; have J5 := J4.below b5; have z0 := J5.xa.cell0; have z1 := J5.xa.cell1; have z2 := J5.xb.cell0; have z3 := J5.xb.cell1; have z4 := J5.xc.cell0; have z5 := J5.xc.cell1; have z6 := J5.xx.cell0; have z7 := J5.xx.cell1) | (go_at_call_of 22 aa; refine (join_at _ _ _ _ _ _ _ dA [] hba IsBits.nil (by omega) (by simp) (by have := J5.ya; rw [HPa.out] at this; exact this) (bytesNone _) dA (by simp) _ 0 HNa.out (by simp)).mono ?_; rintro e w6 ⟨a6, l6, c6, rfl, y6, b6⟩; have J6 := J5.below b6; have z0 := J6.xa.cell0; have z1 := J6.xa.cell1; have z2 := J6.xb.cell0; have z3 := J6.xb.cell1; have z4 := J6.xc.cell0; have z5 := J6.xc.cell1; have z6 := J6.xx.cell0; have z7 := J6.xx.cell1) | (go_at_call_of 15 a6; refine (refsame_eq HNa.out.symm y6 (by have := J6.ya; rw [HPa.out] at this; exact this)).mono ?_; rintro e w7 ⟨rfl, b7⟩; have J7 := J6.below b7; have z0 := J7.xa.cell0; have z1 := J7.xa.cell1; have z2 := J7.xb.cell0; have z3 := J7.xb.cell1; have z4 := J7.xc.cell0; have z5 := J7.xc.cell1; have z6 := J7.xx.cell0; have z7 := J7.xx.cell1))
  have yb7 := J7.yb
  rw [HPb.out] at yb7
  go_wp2_with fail
  refine (take_any _ ab lb cb dB hbb (by omega) at_ (K : Int) yb7 _ _ HT1.out _ HNb.out).mono ?_
  rintro e w8 ⟨rfl, b8⟩
  have J8 := J7.below b8; have z0 := J8.xa.cell0; have z1 := J8.xa.cell1; have z2 := J8.xb.cell0; have z3 := J8.xb.cell1; have z4 := J8.xc.cell0; have z5 := J8.xc.cell1; have z6 := J8.xx.cell0; have z7 := J8.xx.cell1
  go_wp2_with fail
  refine (take_any _ ax lx cx dX hXb (by omega) (Na + at_) (K : Int) J8.yx _ _ HT2.out _ HNX.out).mono ?_
  rintro e w9 ⟨rfl, b9⟩
  go_wp2
  go_ret
  exact ⟨rfl, below_then J8.bel b9⟩
set_option maxRecDepth 10000 in
set_option maxHeartbeats 16000000 in
theorem bitsjoin_f1 (w : World) (aa : Option Addr) (la ca : Nat) (pa : List Nat) (Na : Int) (ab : Option Addr) (lb cb : Nat) (pb : List Nat) (Nb : Int) (ac : Option Addr) (lc cc : Nat) (pc : List Nat) (Nc : Int) (at_ : Int) (wd : Nat) (hwd : wd < 256) (hat1 : -9223372036854775808 ≤ at_) (hat2 : at_ ≤ 9223372036854775807) (hN1a : -9223372036854775808 ≤ Na) (hN2a : Na ≤ 9223372036854775807) (hya : BytesAt w aa la ca pa) (hN1b : -9223372036854775808 ≤ Nb) (hN2b : Nb ≤ 9223372036854775807) (hyb : BytesAt w ab lb cb pb) (hN1c : -9223372036854775808 ≤ Nc) (hN2c : Nc ≤ 9223372036854775807) (hyc : BytesAt w ac lc cc pc) (hfa : la ≤ 100) (hfb : lb ≤ 100) (hfc : lc ≤ 100) (hra : RightI pa Na) (hrb : RightI pb Nb) (hrc : RightI pc Nc) (dA : List Nat) (hba : IsBits dA) (hpa : pa = pack dA) (hla : dA.length ≤ 1000) (hna : Na = (dA.length : Int)) (dB : List Nat) (hbb : IsBits dB) (hpb : pb = pack dB) (hlb : dB.length ≤ 1000) (hnb : Nb = (dB.length : Int)) (dC : List Nat) (hbc : IsBits dC) (hpc : pc = pack dC) (hlc : dC.length ≤ 1000) (hnc : Nc = (dC.length : Int)) (dX : List Nat) (hX : dX = dA ++ dB) (K : Nat) (hK : (wd : Int) % 65 = (K : Int)) (hf1 : at_ < 0) :
    Calls Try.prog 5 #[.agg #[.slice aa la ca, .int .i64 Na, .slice ab lb cb, .int .i64 Nb, .slice ac lc cc, .int .i64 Nc, .int .i64 at_, .int .u8 (wd : Int)]] w fun e w' => e = .returned (.bool true) ∧ Below w.heap.size w w' := by
  have hsa := hya.small
  have hsb := hyb.small
  have hsc := hyc.small
  have dfa : decide (la ≤ 100) = true := by simpa using hfa
  have dfb : decide (lb ≤ 100) = true := by simpa using hfb
  have dfc : decide (lc ≤ 100) = true := by simpa using hfc
  have dra : decide (RightI pa Na) = true := by simpa using hra
  have HRa := Lib.hid dra
  clear dra
  have drb : decide (RightI pb Nb) = true := by simpa using hrb
  have HRb := Lib.hid drb
  clear drb
  have drc : decide (RightI pc Nc) = true := by simpa using hrc
  have HRc := Lib.hid drc
  clear drc
  have hXb : IsBits dX := by rw [hX]; exact hba.append hbb
  have hXl : (dX.length : Int) = Na + Nb := by rw [hX, List.length_append]; omega
  obtain ⟨NX, hNX⟩ : ∃ NX : Int, NX = (dX.length : Int) := ⟨_, rfl⟩
  have hXN : Na + Nb = NX := by omega
  have hNX0 : 0 ≤ NX := by omega
  have hwrap : IntKind.i64.wrap NX = NX := by rw [IntKind.wrap_i64]; omega
  have hNX1 : NX ≤ 2000 := by omega
  have hXs : dX.length ≤ 2000 := by omega
  have hNa0 : 0 ≤ Na := by omega
  have hNa1 : Na ≤ 1000 := by omega
  have hNb0 : 0 ≤ Nb := by omega
  have hNb1 : Nb ≤ 1000 := by omega
  have hrX : decide (RightI (pack dX) NX) = true := by
    rw [decide_eq_true_iff, hNX]
    exact ⟨by omega, by rw [Int.toNat_natCast]; exact pack_right hXb⟩
  have HRX := Lib.hid hrX
  have hK64 : K ≤ 64 := by omega
  obtain ⟨dD, hD⟩ : ∃ dD, dD = dX ++ dC := ⟨_, rfl⟩
  obtain ⟨dE, hE⟩ : ∃ dE, dE = dB ++ dC := ⟨_, rfl⟩
  have hEb : IsBits dE := by rw [hE]; exact hbb.append hbc
  have hEl : dE.length ≤ 2000 := by rw [hE, List.length_append]; omega
  have hDE : dA ++ dE = dD := by rw [hD, hE, hX, List.append_assoc]
  have HD := Lib.hid hD
  have HE := Lib.hid hE
  have HDE := Lib.hid hDE
  clear hD hE hDE
  have HX := Lib.hid hX
  have HNX := Lib.hid hNX
  have HNa := Lib.hid hna
  have HNb := Lib.hid hnb
  have HNc := Lib.hid hnc
  have HPa := Lib.hid hpa
  have HPb := Lib.hid hpb
  have HPc := Lib.hid hpc
  clear hX hNX hna hnb hnc hpa hpb hpc hXl hrX
  have g1 : decide (at_ < 0) = true := by simpa using hf1
  obtain ⟨W4, hW4⟩ : ∃ W4, W4 = ((((w.alloc (.cells #[.slice aa la ca, .int .i64 Na, .slice ab lb cb, .int .i64 Nb, .slice ac lc cc, .int .i64 Nc, .int .i64 at_, .int .u8 (wd : Int)] 47)).alloc (.cells #[.slice aa la ca, .int .i64 Na] 24)).alloc (.cells #[.slice ab lb cb, .int .i64 Nb] 24)).alloc (.cells #[.slice ac lc cc, .int .i64 Nc] 24)) := ⟨_, rfl⟩
  have b0 : Below w.heap.size w W4 := by
    rw [hW4]
    exact (((((Below.refl _ _).alloc (Nat.le_refl _) _).alloc (by simp) _).alloc (by simp; omega) _).alloc (by simp; omega) _)
  have xa : BitsBox W4 (w.heap.size + 1) aa la ca Na := by
    rw [hW4]
    refine (Below.heap_alloc _ _ _ (by simp)).trans ((Below.heap_alloc _ _ _ (by simp)).trans ?_)
    have := World.alloc_heap_new (w.alloc (.cells #[.slice aa la ca, .int .i64 Na, .slice ab lb cb, .int .i64 Nb, .slice ac lc cc, .int .i64 Nc, .int .i64 at_, .int .u8 (wd : Int)] 47)) (.cells #[.slice aa la ca, .int .i64 Na] 24)
    rw [show (w.alloc (.cells #[.slice aa la ca, .int .i64 Na, .slice ab lb cb, .int .i64 Nb, .slice ac lc cc, .int .i64 Nc, .int .i64 at_, .int .u8 (wd : Int)] 47)).heap.size = w.heap.size + 1 from by simp] at this
    exact this
  have xb : BitsBox W4 (w.heap.size + 2) ab lb cb Nb := by
    rw [hW4]
    refine (Below.heap_alloc _ _ _ (by simp)).trans ?_
    have := World.alloc_heap_new ((w.alloc (.cells #[.slice aa la ca, .int .i64 Na, .slice ab lb cb, .int .i64 Nb, .slice ac lc cc, .int .i64 Nc, .int .i64 at_, .int .u8 (wd : Int)] 47)).alloc (.cells #[.slice aa la ca, .int .i64 Na] 24)) (.cells #[.slice ab lb cb, .int .i64 Nb] 24)
    rw [show ((w.alloc (.cells #[.slice aa la ca, .int .i64 Na, .slice ab lb cb, .int .i64 Nb, .slice ac lc cc, .int .i64 Nc, .int .i64 at_, .int .u8 (wd : Int)] 47)).alloc (.cells #[.slice aa la ca, .int .i64 Na] 24)).heap.size = w.heap.size + 2 from by simp] at this
    exact this
  have xc : BitsBox W4 (w.heap.size + 3) ac lc cc Nc := by
    rw [hW4]
    have := World.alloc_heap_new (((w.alloc (.cells #[.slice aa la ca, .int .i64 Na, .slice ab lb cb, .int .i64 Nb, .slice ac lc cc, .int .i64 Nc, .int .i64 at_, .int .u8 (wd : Int)] 47)).alloc (.cells #[.slice aa la ca, .int .i64 Na] 24)).alloc (.cells #[.slice ab lb cb, .int .i64 Nb] 24)) (.cells #[.slice ac lc cc, .int .i64 Nc] 24)
    rw [show (((w.alloc (.cells #[.slice aa la ca, .int .i64 Na, .slice ab lb cb, .int .i64 Nb, .slice ac lc cc, .int .i64 Nc, .int .i64 at_, .int .u8 (wd : Int)] 47)).alloc (.cells #[.slice aa la ca, .int .i64 Na] 24)).alloc (.cells #[.slice ab lb cb, .int .i64 Nb] 24)).heap.size = w.heap.size + 3 from by simp] at this
    exact this
  have ya := hya.mono b0
  have yb := hyb.mono b0
  have yc := hyc.mono b0
  go_enter Try.func5, Try.ntmps5
  go_wp2_with fail
  rw [← hW4]
  clear hW4
  refine (shown_any _).mono ?_
  rintro e ws ⟨rfl, bs1⟩
  have xa := xa.below bs1
  have xb := xb.below bs1
  have xc := xc.below bs1
  have ya := ya.mono bs1
  have yb := yb.mono bs1
  have yc := yc.mono bs1
  have Bel := below_then b0 bs1
  have xa_0 := xa.cell0
  have xa_1 := xa.cell1
  have xb_0 := xb.cell0
  have xb_1 := xb.cell1
  have xc_0 := xc.cell0
  have xc_1 := xc.cell1
  go_wp2_with fail
  refine (few_any _ aa la ca Na hsa).mono ?_
  rintro e wfa ⟨rfl, bfa⟩
  have xa := xa.below bfa
  have xb := xb.below bfa
  have xc := xc.below bfa
  have ya := ya.mono bfa
  have yb := yb.mono bfa
  have yc := yc.mono bfa
  have Bel := below_then Bel bfa
  have xa_0 := xa.cell0
  have xa_1 := xa.cell1
  have xb_0 := xb.cell0
  have xb_1 := xb.cell1
  have xc_0 := xc.cell0
  have xc_1 := xc.cell1
  rw [dfa]
  go_wp2_with fail
  refine (few_any _ ab lb cb Nb hsb).mono ?_
  rintro e wfb ⟨rfl, bfb⟩
  have xa := xa.below bfb
  have xb := xb.below bfb
  have xc := xc.below bfb
  have ya := ya.mono bfb
  have yb := yb.mono bfb
  have yc := yc.mono bfb
  have Bel := below_then Bel bfb
  have xa_0 := xa.cell0
  have xa_1 := xa.cell1
  have xb_0 := xb.cell0
  have xb_1 := xb.cell1
  have xc_0 := xc.cell0
  have xc_1 := xc.cell1
  rw [dfb]
  go_wp2_with fail
  refine (few_any _ ac lc cc Nc hsc).mono ?_
  rintro e wfc ⟨rfl, bfc⟩
  have xa := xa.below bfc
  have xb := xb.below bfc
  have xc := xc.below bfc
  have ya := ya.mono bfc
  have yb := yb.mono bfc
  have yc := yc.mono bfc
  have Bel := below_then Bel bfc
  have xa_0 := xa.cell0
  have xa_1 := xa.cell1
  have xb_0 := xb.cell0
  have xb_1 := xb.cell1
  have xc_0 := xc.cell0
  have xc_1 := xc.cell1
  rw [dfc]
  go_wp2_with fail
  refine (refright_any _ aa la ca pa Na hN1a hN2a (by omega) ya).mono ?_
  rintro e wra ⟨rfl, bra⟩
  have xa := xa.below bra
  have xb := xb.below bra
  have xc := xc.below bra
  have ya := ya.mono bra
  have yb := yb.mono bra
  have yc := yc.mono bra
  have Bel := below_then Bel bra
  have xa_0 := xa.cell0
  have xa_1 := xa.cell1
  have xb_0 := xb.cell0
  have xb_1 := xb.cell1
  have xc_0 := xc.cell0
  have xc_1 := xc.cell1
  rw [HRa.out]
  go_wp2_with fail
  refine (refright_any _ ab lb cb pb Nb hN1b hN2b (by omega) yb).mono ?_
  rintro e wrb ⟨rfl, brb⟩
  have xa := xa.below brb
  have xb := xb.below brb
  have xc := xc.below brb
  have ya := ya.mono brb
  have yb := yb.mono brb
  have yc := yc.mono brb
  have Bel := below_then Bel brb
  have xa_0 := xa.cell0
  have xa_1 := xa.cell1
  have xb_0 := xb.cell0
  have xb_1 := xb.cell1
  have xc_0 := xc.cell0
  have xc_1 := xc.cell1
  rw [HRb.out]
  go_wp2_with fail
  refine (refright_any _ ac lc cc pc Nc hN1c hN2c (by omega) yc).mono ?_
  rintro e wrc ⟨rfl, brc⟩
  have xa := xa.below brc
  have xb := xb.below brc
  have xc := xc.below brc
  have ya := ya.mono brc
  have yb := yb.mono brc
  have yc := yc.mono brc
  have Bel := below_then Bel brc
  have xa_0 := xa.cell0
  have xa_1 := xa.cell1
  have xb_0 := xb.cell0
  have xb_1 := xb.cell1
  have xc_0 := xc.cell0
  have xc_1 := xc.cell1
  rw [HRc.out]
  rw [HPa.out] at ya
  rw [HPb.out] at yb
  rw [HPc.out] at yc
  go_wp2_with fail
  refine (join_at _ _ _ _ _ _ _ dA dB hba hbb (by omega) (by omega) ya yb dX HX.out.symm _ _ HNa.out HNb.out).mono ?_
  rintro e wx ⟨ax, lx, cx, rfl, yx, bx⟩
  rw [← HNX.out]
  have xa := xa.below bx
  have xb := xb.below bx
  have xc := xc.below bx
  have ya := ya.mono bx
  have yb := yb.mono bx
  have yc := yc.mono bx
  have Bel := below_then Bel bx
  have xx : BitsBox (wx.alloc (.cells #[.slice ax lx cx, .int .i64 NX] 24)) wx.heap.size ax lx cx NX := World.alloc_heap_new _ _
  have xa := xa.below ((Below.refl wx.heap.size wx).alloc (Nat.le_refl _) (.cells #[.slice ax lx cx, .int .i64 NX] 24))
  have xb := xb.below ((Below.refl wx.heap.size wx).alloc (Nat.le_refl _) (.cells #[.slice ax lx cx, .int .i64 NX] 24))
  have xc := xc.below ((Below.refl wx.heap.size wx).alloc (Nat.le_refl _) (.cells #[.slice ax lx cx, .int .i64 NX] 24))
  have ya := ya.mono ((Below.refl wx.heap.size wx).alloc (Nat.le_refl _) (.cells #[.slice ax lx cx, .int .i64 NX] 24))
  have yb := yb.mono ((Below.refl wx.heap.size wx).alloc (Nat.le_refl _) (.cells #[.slice ax lx cx, .int .i64 NX] 24))
  have yc := yc.mono ((Below.refl wx.heap.size wx).alloc (Nat.le_refl _) (.cells #[.slice ax lx cx, .int .i64 NX] 24))
  have yx := yx.mono ((Below.refl wx.heap.size wx).alloc (Nat.le_refl _) (.cells #[.slice ax lx cx, .int .i64 NX] 24))
  have Bel := below_new Bel (.cells #[.slice ax lx cx, .int .i64 NX] 24)
  rw [← HPa.out] at ya
  rw [← HPb.out] at yb
  rw [← HPc.out] at yc
  have J0 : Quad w (wx.alloc (.cells #[.slice ax lx cx, .int .i64 NX] 24)).drew w.heap.size wx.heap.size aa la ca Na pa ab lb cb Nb pb ac lc cc Nc pc ax lx cx NX (pack dX) := ⟨xa.below (Below.refl _ _).drew, xb.below (Below.refl _ _).drew, xc.below (Below.refl _ _).drew, xx.below (Below.refl _ _).drew, ya.mono (Below.refl _ _).drew, yb.mono (Below.refl _ _).drew, yc.mono (Below.refl _ _).drew, yx.mono (Below.refl _ _).drew, Bel.drew⟩
  have q0 := J0.xa.cell0; have q1 := J0.xa.cell1; have q2 := J0.xb.cell0; have q3 := J0.xb.cell1; have q4 := J0.xc.cell0; have q5 := J0.xc.cell1; have q6 := J0.xx.cell0; have q7 := J0.xx.cell1
  have xa_0 := xa.cell0
  have xa_1 := xa.cell1
  have xb_0 := xb.cell0
  have xb_1 := xb.cell1
  have xc_0 := xc.cell0
  have xc_1 := xc.cell1
  have xx_0 := xx.cell0
  have xx_1 := xx.cell1
  go_wp2
  go_region_held3 (fun w' => Quad w w' w.heap.size wx.heap.size aa la ca Na pa ab lb cb Nb pb ac lc cc Nc pc ax lx cx NX (pack dX) ∧ w'.cell? ⟨w.heap.size + 1, 0, none⟩ = some (.slice aa la ca) ∧ w'.cell? ⟨w.heap.size + 1, 1, none⟩ = some (.int .i64 Na) ∧ w'.cell? ⟨w.heap.size + 2, 0, none⟩ = some (.slice ab lb cb) ∧ w'.cell? ⟨w.heap.size + 2, 1, none⟩ = some (.int .i64 Nb) ∧ w'.cell? ⟨w.heap.size + 3, 0, none⟩ = some (.slice ac lc cc) ∧ w'.cell? ⟨w.heap.size + 3, 1, none⟩ = some (.int .i64 Nc) ∧ w'.cell? ⟨wx.heap.size, 0, none⟩ = some (.slice ax lx cx) ∧ w'.cell? ⟨wx.heap.size, 1, none⟩ = some (.int .i64 NX))
    (first | exact ⟨J0, q0, q1, q2, q3, q4, q5, q6, q7⟩ | exact ⟨by assumption, z0, z1, z2, z3, z4, z5, z6, z7⟩)
    (first | (go_at_call 12; refine (refright_any _ ax lx cx (pack dX) NX (by omega) (by omega) (by have := yx.len_eq; rw [pack_length] at this; omega) J0.yx).mono ?_; rintro e w1 ⟨rfl, b1⟩; rw [HRX.out]; have J1 := J0.below b1; have z0 := J1.xa.cell0; have z1 := J1.xa.cell1; have z2 := J1.xb.cell0; have z3 := J1.xb.cell1; have z4 := J1.xc.cell0; have z5 := J1.xc.cell1; have z6 := J1.xx.cell0; have z7 := J1.xx.cell1) | (go_at_call_of 22 ax; refine (join_at _ _ _ _ _ _ _ dX dC hXb hbc (by omega) (by omega) J1.yx (by have := J1.yc; rw [HPc.out] at this; exact this) dD HD.out.symm _ _ HNX.out HNc.out).mono ?_; rintro e w2 ⟨a2, l2, c2, rfl, y2, b2⟩; have J2 := J1.below b2; have z0 := J2.xa.cell0; have z1 := J2.xa.cell1; have z2 := J2.xb.cell0; have z3 := J2.xb.cell1; have z4 := J2.xc.cell0; have z5 := J2.xc.cell1; have z6 := J2.xx.cell0; have z7 := J2.xx.cell1) | (go_at_call_of 22 a3; refine (join_at _ _ _ _ _ _ _ dA dE hba hEb (by omega) (by omega) (by have := J3.ya; rw [HPa.out] at this; exact this) y3 dD HDE.out _ _ HNa.out rfl).mono ?_; rintro e w4 ⟨a4, l4, c4, rfl, y4, b4⟩; have y2'' := y2'.mono b4; have J4 := J3.below b4; have z0 := J4.xa.cell0; have z1 := J4.xa.cell1; have z2 := J4.xb.cell0; have z3 := J4.xb.cell1; have z4 := J4.xc.cell0; have z5 := J4.xc.cell1; have z6 := J4.xx.cell0; have z7 := J4.xx.cell1) | (go_at_call_of 22 ab; refine (join_at _ _ _ _ _ _ _ dB dC hbb hbc (by omega) (by omega) (by have := J2.yb; rw [HPb.out] at this; exact this) (by have := J2.yc; rw [HPc.out] at this; exact this) dE HE.out.symm _ _ HNb.out HNc.out).mono ?_; rintro e w3 ⟨a3, l3, c3, rfl, y3, b3⟩; have y2' := y2.mono b3; have J3 := J2.below b3; have z0 := J3.xa.cell0; have z1 := J3.xa.cell1; have z2 := J3.xb.cell0; have z3 := J3.xb.cell1; have z4 := J3.xc.cell0; have z5 := J3.xc.cell1; have z6 := J3.xx.cell0; have z7 := J3.xx.cell1) | (go_at_call_of 15 a4; refine (refsame_same y2'' y4).mono ?_; rintro e w5 ⟨rfl, b5⟩; have J5 := J4.below b5; have z0 := J5.xa.cell0; have z1 := J5.xa.cell1; have z2 := J5.xb.cell0; have z3 := J5.xb.cell1; have z4 := J5.xc.cell0; have z5 := J5.xc.cell1; have z6 := J5.xx.cell0; have z7 := J5.xx.cell1) | (go_at_call_of 22 aa; refine (join_at _ _ _ _ _ _ _ dA [] hba IsBits.nil (by omega) (by simp) (by have := J5.ya; rw [HPa.out] at this; exact this) (bytesNone _) dA (by simp) _ 0 HNa.out (by simp)).mono ?_; rintro e w6 ⟨a6, l6, c6, rfl, y6, b6⟩; have J6 := J5.below b6; have z0 := J6.xa.cell0; have z1 := J6.xa.cell1; have z2 := J6.xb.cell0; have z3 := J6.xb.cell1; have z4 := J6.xc.cell0; have z5 := J6.xc.cell1; have z6 := J6.xx.cell0; have z7 := J6.xx.cell1) | (go_at_call_of 15 a6; refine (refsame_eq HNa.out.symm y6 (by have := J6.ya; rw [HPa.out] at this; exact this)).mono ?_; rintro e w7 ⟨rfl, b7⟩; have J7 := J6.below b7; have z0 := J7.xa.cell0; have z1 := J7.xa.cell1; have z2 := J7.xb.cell0; have z3 := J7.xb.cell1; have z4 := J7.xc.cell0; have z5 := J7.xc.cell1; have z6 := J7.xx.cell0; have z7 := J7.xx.cell1))
  go_wp2
  go_ret
  exact ⟨rfl, J7.bel⟩
set_option maxRecDepth 10000 in
set_option maxHeartbeats 16000000 in
theorem bitsjoin_f2 (w : World) (aa : Option Addr) (la ca : Nat) (pa : List Nat) (Na : Int) (ab : Option Addr) (lb cb : Nat) (pb : List Nat) (Nb : Int) (ac : Option Addr) (lc cc : Nat) (pc : List Nat) (Nc : Int) (at_ : Int) (wd : Nat) (hwd : wd < 256) (hat1 : -9223372036854775808 ≤ at_) (hat2 : at_ ≤ 9223372036854775807) (hN1a : -9223372036854775808 ≤ Na) (hN2a : Na ≤ 9223372036854775807) (hya : BytesAt w aa la ca pa) (hN1b : -9223372036854775808 ≤ Nb) (hN2b : Nb ≤ 9223372036854775807) (hyb : BytesAt w ab lb cb pb) (hN1c : -9223372036854775808 ≤ Nc) (hN2c : Nc ≤ 9223372036854775807) (hyc : BytesAt w ac lc cc pc) (hfa : la ≤ 100) (hfb : lb ≤ 100) (hfc : lc ≤ 100) (hra : RightI pa Na) (hrb : RightI pb Nb) (hrc : RightI pc Nc) (dA : List Nat) (hba : IsBits dA) (hpa : pa = pack dA) (hla : dA.length ≤ 1000) (hna : Na = (dA.length : Int)) (dB : List Nat) (hbb : IsBits dB) (hpb : pb = pack dB) (hlb : dB.length ≤ 1000) (hnb : Nb = (dB.length : Int)) (dC : List Nat) (hbc : IsBits dC) (hpc : pc = pack dC) (hlc : dC.length ≤ 1000) (hnc : Nc = (dC.length : Int)) (dX : List Nat) (hX : dX = dA ++ dB) (K : Nat) (hK : (wd : Int) % 65 = (K : Int)) (hf1 : ¬ at_ < 0) (hf2 : Nb < at_) :
    Calls Try.prog 5 #[.agg #[.slice aa la ca, .int .i64 Na, .slice ab lb cb, .int .i64 Nb, .slice ac lc cc, .int .i64 Nc, .int .i64 at_, .int .u8 (wd : Int)]] w fun e w' => e = .returned (.bool true) ∧ Below w.heap.size w w' := by
  have hsa := hya.small
  have hsb := hyb.small
  have hsc := hyc.small
  have dfa : decide (la ≤ 100) = true := by simpa using hfa
  have dfb : decide (lb ≤ 100) = true := by simpa using hfb
  have dfc : decide (lc ≤ 100) = true := by simpa using hfc
  have dra : decide (RightI pa Na) = true := by simpa using hra
  have HRa := Lib.hid dra
  clear dra
  have drb : decide (RightI pb Nb) = true := by simpa using hrb
  have HRb := Lib.hid drb
  clear drb
  have drc : decide (RightI pc Nc) = true := by simpa using hrc
  have HRc := Lib.hid drc
  clear drc
  have hXb : IsBits dX := by rw [hX]; exact hba.append hbb
  have hXl : (dX.length : Int) = Na + Nb := by rw [hX, List.length_append]; omega
  obtain ⟨NX, hNX⟩ : ∃ NX : Int, NX = (dX.length : Int) := ⟨_, rfl⟩
  have hXN : Na + Nb = NX := by omega
  have hNX0 : 0 ≤ NX := by omega
  have hwrap : IntKind.i64.wrap NX = NX := by rw [IntKind.wrap_i64]; omega
  have hNX1 : NX ≤ 2000 := by omega
  have hXs : dX.length ≤ 2000 := by omega
  have hNa0 : 0 ≤ Na := by omega
  have hNa1 : Na ≤ 1000 := by omega
  have hNb0 : 0 ≤ Nb := by omega
  have hNb1 : Nb ≤ 1000 := by omega
  have hrX : decide (RightI (pack dX) NX) = true := by
    rw [decide_eq_true_iff, hNX]
    exact ⟨by omega, by rw [Int.toNat_natCast]; exact pack_right hXb⟩
  have HRX := Lib.hid hrX
  have hK64 : K ≤ 64 := by omega
  obtain ⟨dD, hD⟩ : ∃ dD, dD = dX ++ dC := ⟨_, rfl⟩
  obtain ⟨dE, hE⟩ : ∃ dE, dE = dB ++ dC := ⟨_, rfl⟩
  have hEb : IsBits dE := by rw [hE]; exact hbb.append hbc
  have hEl : dE.length ≤ 2000 := by rw [hE, List.length_append]; omega
  have hDE : dA ++ dE = dD := by rw [hD, hE, hX, List.append_assoc]
  have HD := Lib.hid hD
  have HE := Lib.hid hE
  have HDE := Lib.hid hDE
  clear hD hE hDE
  have HX := Lib.hid hX
  have HNX := Lib.hid hNX
  have HNa := Lib.hid hna
  have HNb := Lib.hid hnb
  have HNc := Lib.hid hnc
  have HPa := Lib.hid hpa
  have HPb := Lib.hid hpb
  have HPc := Lib.hid hpc
  clear hX hNX hna hnb hnc hpa hpb hpc hXl hrX
  have g1 : decide (at_ < 0) = false := by simpa using hf1
  have g2 : decide (Nb < at_) = true := by simpa using hf2
  obtain ⟨W4, hW4⟩ : ∃ W4, W4 = ((((w.alloc (.cells #[.slice aa la ca, .int .i64 Na, .slice ab lb cb, .int .i64 Nb, .slice ac lc cc, .int .i64 Nc, .int .i64 at_, .int .u8 (wd : Int)] 47)).alloc (.cells #[.slice aa la ca, .int .i64 Na] 24)).alloc (.cells #[.slice ab lb cb, .int .i64 Nb] 24)).alloc (.cells #[.slice ac lc cc, .int .i64 Nc] 24)) := ⟨_, rfl⟩
  have b0 : Below w.heap.size w W4 := by
    rw [hW4]
    exact (((((Below.refl _ _).alloc (Nat.le_refl _) _).alloc (by simp) _).alloc (by simp; omega) _).alloc (by simp; omega) _)
  have xa : BitsBox W4 (w.heap.size + 1) aa la ca Na := by
    rw [hW4]
    refine (Below.heap_alloc _ _ _ (by simp)).trans ((Below.heap_alloc _ _ _ (by simp)).trans ?_)
    have := World.alloc_heap_new (w.alloc (.cells #[.slice aa la ca, .int .i64 Na, .slice ab lb cb, .int .i64 Nb, .slice ac lc cc, .int .i64 Nc, .int .i64 at_, .int .u8 (wd : Int)] 47)) (.cells #[.slice aa la ca, .int .i64 Na] 24)
    rw [show (w.alloc (.cells #[.slice aa la ca, .int .i64 Na, .slice ab lb cb, .int .i64 Nb, .slice ac lc cc, .int .i64 Nc, .int .i64 at_, .int .u8 (wd : Int)] 47)).heap.size = w.heap.size + 1 from by simp] at this
    exact this
  have xb : BitsBox W4 (w.heap.size + 2) ab lb cb Nb := by
    rw [hW4]
    refine (Below.heap_alloc _ _ _ (by simp)).trans ?_
    have := World.alloc_heap_new ((w.alloc (.cells #[.slice aa la ca, .int .i64 Na, .slice ab lb cb, .int .i64 Nb, .slice ac lc cc, .int .i64 Nc, .int .i64 at_, .int .u8 (wd : Int)] 47)).alloc (.cells #[.slice aa la ca, .int .i64 Na] 24)) (.cells #[.slice ab lb cb, .int .i64 Nb] 24)
    rw [show ((w.alloc (.cells #[.slice aa la ca, .int .i64 Na, .slice ab lb cb, .int .i64 Nb, .slice ac lc cc, .int .i64 Nc, .int .i64 at_, .int .u8 (wd : Int)] 47)).alloc (.cells #[.slice aa la ca, .int .i64 Na] 24)).heap.size = w.heap.size + 2 from by simp] at this
    exact this
  have xc : BitsBox W4 (w.heap.size + 3) ac lc cc Nc := by
    rw [hW4]
    have := World.alloc_heap_new (((w.alloc (.cells #[.slice aa la ca, .int .i64 Na, .slice ab lb cb, .int .i64 Nb, .slice ac lc cc, .int .i64 Nc, .int .i64 at_, .int .u8 (wd : Int)] 47)).alloc (.cells #[.slice aa la ca, .int .i64 Na] 24)).alloc (.cells #[.slice ab lb cb, .int .i64 Nb] 24)) (.cells #[.slice ac lc cc, .int .i64 Nc] 24)
    rw [show (((w.alloc (.cells #[.slice aa la ca, .int .i64 Na, .slice ab lb cb, .int .i64 Nb, .slice ac lc cc, .int .i64 Nc, .int .i64 at_, .int .u8 (wd : Int)] 47)).alloc (.cells #[.slice aa la ca, .int .i64 Na] 24)).alloc (.cells #[.slice ab lb cb, .int .i64 Nb] 24)).heap.size = w.heap.size + 3 from by simp] at this
    exact this
  have ya := hya.mono b0
  have yb := hyb.mono b0
  have yc := hyc.mono b0
  go_enter Try.func5, Try.ntmps5
  go_wp2_with fail
  rw [← hW4]
  clear hW4
  refine (shown_any _).mono ?_
  rintro e ws ⟨rfl, bs1⟩
  have xa := xa.below bs1
  have xb := xb.below bs1
  have xc := xc.below bs1
  have ya := ya.mono bs1
  have yb := yb.mono bs1
  have yc := yc.mono bs1
  have Bel := below_then b0 bs1
  have xa_0 := xa.cell0
  have xa_1 := xa.cell1
  have xb_0 := xb.cell0
  have xb_1 := xb.cell1
  have xc_0 := xc.cell0
  have xc_1 := xc.cell1
  go_wp2_with fail
  refine (few_any _ aa la ca Na hsa).mono ?_
  rintro e wfa ⟨rfl, bfa⟩
  have xa := xa.below bfa
  have xb := xb.below bfa
  have xc := xc.below bfa
  have ya := ya.mono bfa
  have yb := yb.mono bfa
  have yc := yc.mono bfa
  have Bel := below_then Bel bfa
  have xa_0 := xa.cell0
  have xa_1 := xa.cell1
  have xb_0 := xb.cell0
  have xb_1 := xb.cell1
  have xc_0 := xc.cell0
  have xc_1 := xc.cell1
  rw [dfa]
  go_wp2_with fail
  refine (few_any _ ab lb cb Nb hsb).mono ?_
  rintro e wfb ⟨rfl, bfb⟩
  have xa := xa.below bfb
  have xb := xb.below bfb
  have xc := xc.below bfb
  have ya := ya.mono bfb
  have yb := yb.mono bfb
  have yc := yc.mono bfb
  have Bel := below_then Bel bfb
  have xa_0 := xa.cell0
  have xa_1 := xa.cell1
  have xb_0 := xb.cell0
  have xb_1 := xb.cell1
  have xc_0 := xc.cell0
  have xc_1 := xc.cell1
  rw [dfb]
  go_wp2_with fail
  refine (few_any _ ac lc cc Nc hsc).mono ?_
  rintro e wfc ⟨rfl, bfc⟩
  have xa := xa.below bfc
  have xb := xb.below bfc
  have xc := xc.below bfc
  have ya := ya.mono bfc
  have yb := yb.mono bfc
  have yc := yc.mono bfc
  have Bel := below_then Bel bfc
  have xa_0 := xa.cell0
  have xa_1 := xa.cell1
  have xb_0 := xb.cell0
  have xb_1 := xb.cell1
  have xc_0 := xc.cell0
  have xc_1 := xc.cell1
  rw [dfc]
  go_wp2_with fail
  refine (refright_any _ aa la ca pa Na hN1a hN2a (by omega) ya).mono ?_
  rintro e wra ⟨rfl, bra⟩
  have xa := xa.below bra
  have xb := xb.below bra
  have xc := xc.below bra
  have ya := ya.mono bra
  have yb := yb.mono bra
  have yc := yc.mono bra
  have Bel := below_then Bel bra
  have xa_0 := xa.cell0
  have xa_1 := xa.cell1
  have xb_0 := xb.cell0
  have xb_1 := xb.cell1
  have xc_0 := xc.cell0
  have xc_1 := xc.cell1
  rw [HRa.out]
  go_wp2_with fail
  refine (refright_any _ ab lb cb pb Nb hN1b hN2b (by omega) yb).mono ?_
  rintro e wrb ⟨rfl, brb⟩
  have xa := xa.below brb
  have xb := xb.below brb
  have xc := xc.below brb
  have ya := ya.mono brb
  have yb := yb.mono brb
  have yc := yc.mono brb
  have Bel := below_then Bel brb
  have xa_0 := xa.cell0
  have xa_1 := xa.cell1
  have xb_0 := xb.cell0
  have xb_1 := xb.cell1
  have xc_0 := xc.cell0
  have xc_1 := xc.cell1
  rw [HRb.out]
  go_wp2_with fail
  refine (refright_any _ ac lc cc pc Nc hN1c hN2c (by omega) yc).mono ?_
  rintro e wrc ⟨rfl, brc⟩
  have xa := xa.below brc
  have xb := xb.below brc
  have xc := xc.below brc
  have ya := ya.mono brc
  have yb := yb.mono brc
  have yc := yc.mono brc
  have Bel := below_then Bel brc
  have xa_0 := xa.cell0
  have xa_1 := xa.cell1
  have xb_0 := xb.cell0
  have xb_1 := xb.cell1
  have xc_0 := xc.cell0
  have xc_1 := xc.cell1
  rw [HRc.out]
  rw [HPa.out] at ya
  rw [HPb.out] at yb
  rw [HPc.out] at yc
  go_wp2_with fail
  refine (join_at _ _ _ _ _ _ _ dA dB hba hbb (by omega) (by omega) ya yb dX HX.out.symm _ _ HNa.out HNb.out).mono ?_
  rintro e wx ⟨ax, lx, cx, rfl, yx, bx⟩
  rw [← HNX.out]
  have xa := xa.below bx
  have xb := xb.below bx
  have xc := xc.below bx
  have ya := ya.mono bx
  have yb := yb.mono bx
  have yc := yc.mono bx
  have Bel := below_then Bel bx
  have xx : BitsBox (wx.alloc (.cells #[.slice ax lx cx, .int .i64 NX] 24)) wx.heap.size ax lx cx NX := World.alloc_heap_new _ _
  have xa := xa.below ((Below.refl wx.heap.size wx).alloc (Nat.le_refl _) (.cells #[.slice ax lx cx, .int .i64 NX] 24))
  have xb := xb.below ((Below.refl wx.heap.size wx).alloc (Nat.le_refl _) (.cells #[.slice ax lx cx, .int .i64 NX] 24))
  have xc := xc.below ((Below.refl wx.heap.size wx).alloc (Nat.le_refl _) (.cells #[.slice ax lx cx, .int .i64 NX] 24))
  have ya := ya.mono ((Below.refl wx.heap.size wx).alloc (Nat.le_refl _) (.cells #[.slice ax lx cx, .int .i64 NX] 24))
  have yb := yb.mono ((Below.refl wx.heap.size wx).alloc (Nat.le_refl _) (.cells #[.slice ax lx cx, .int .i64 NX] 24))
  have yc := yc.mono ((Below.refl wx.heap.size wx).alloc (Nat.le_refl _) (.cells #[.slice ax lx cx, .int .i64 NX] 24))
  have yx := yx.mono ((Below.refl wx.heap.size wx).alloc (Nat.le_refl _) (.cells #[.slice ax lx cx, .int .i64 NX] 24))
  have Bel := below_new Bel (.cells #[.slice ax lx cx, .int .i64 NX] 24)
  rw [← HPa.out] at ya
  rw [← HPb.out] at yb
  rw [← HPc.out] at yc
  have J0 : Quad w (wx.alloc (.cells #[.slice ax lx cx, .int .i64 NX] 24)).drew w.heap.size wx.heap.size aa la ca Na pa ab lb cb Nb pb ac lc cc Nc pc ax lx cx NX (pack dX) := ⟨xa.below (Below.refl _ _).drew, xb.below (Below.refl _ _).drew, xc.below (Below.refl _ _).drew, xx.below (Below.refl _ _).drew, ya.mono (Below.refl _ _).drew, yb.mono (Below.refl _ _).drew, yc.mono (Below.refl _ _).drew, yx.mono (Below.refl _ _).drew, Bel.drew⟩
  have q0 := J0.xa.cell0; have q1 := J0.xa.cell1; have q2 := J0.xb.cell0; have q3 := J0.xb.cell1; have q4 := J0.xc.cell0; have q5 := J0.xc.cell1; have q6 := J0.xx.cell0; have q7 := J0.xx.cell1
  have xa_0 := xa.cell0
  have xa_1 := xa.cell1
  have xb_0 := xb.cell0
  have xb_1 := xb.cell1
  have xc_0 := xc.cell0
  have xc_1 := xc.cell1
  have xx_0 := xx.cell0
  have xx_1 := xx.cell1
  go_wp2
  go_region_held3 (fun w' => Quad w w' w.heap.size wx.heap.size aa la ca Na pa ab lb cb Nb pb ac lc cc Nc pc ax lx cx NX (pack dX) ∧ w'.cell? ⟨w.heap.size + 1, 0, none⟩ = some (.slice aa la ca) ∧ w'.cell? ⟨w.heap.size + 1, 1, none⟩ = some (.int .i64 Na) ∧ w'.cell? ⟨w.heap.size + 2, 0, none⟩ = some (.slice ab lb cb) ∧ w'.cell? ⟨w.heap.size + 2, 1, none⟩ = some (.int .i64 Nb) ∧ w'.cell? ⟨w.heap.size + 3, 0, none⟩ = some (.slice ac lc cc) ∧ w'.cell? ⟨w.heap.size + 3, 1, none⟩ = some (.int .i64 Nc) ∧ w'.cell? ⟨wx.heap.size, 0, none⟩ = some (.slice ax lx cx) ∧ w'.cell? ⟨wx.heap.size, 1, none⟩ = some (.int .i64 NX))
    (first | exact ⟨J0, q0, q1, q2, q3, q4, q5, q6, q7⟩ | exact ⟨by assumption, z0, z1, z2, z3, z4, z5, z6, z7⟩)
    (first | (go_at_call 12; refine (refright_any _ ax lx cx (pack dX) NX (by omega) (by omega) (by have := yx.len_eq; rw [pack_length] at this; omega) J0.yx).mono ?_; rintro e w1 ⟨rfl, b1⟩; rw [HRX.out]; have J1 := J0.below b1; have z0 := J1.xa.cell0; have z1 := J1.xa.cell1; have z2 := J1.xb.cell0; have z3 := J1.xb.cell1; have z4 := J1.xc.cell0; have z5 := J1.xc.cell1; have z6 := J1.xx.cell0; have z7 := J1.xx.cell1) | (go_at_call_of 22 ax; refine (join_at _ _ _ _ _ _ _ dX dC hXb hbc (by omega) (by omega) J1.yx (by have := J1.yc; rw [HPc.out] at this; exact this) dD HD.out.symm _ _ HNX.out HNc.out).mono ?_; rintro e w2 ⟨a2, l2, c2, rfl, y2, b2⟩; have J2 := J1.below b2; have z0 := J2.xa.cell0; have z1 := J2.xa.cell1; have z2 := J2.xb.cell0; have z3 := J2.xb.cell1; have z4 := J2.xc.cell0; have z5 := J2.xc.cell1; have z6 := J2.xx.cell0; have z7 := J2.xx.cell1) | (go_at_call_of 22 a3; refine (join_at _ _ _ _ _ _ _ dA dE hba hEb (by omega) (by omega) (by have := J3.ya; rw [HPa.out] at this; exact this) y3 dD HDE.out _ _ HNa.out rfl).mono ?_; rintro e w4 ⟨a4, l4, c4, rfl, y4, b4⟩; have y2'' := y2'.mono b4; have J4 := J3.below b4; have z0 := J4.xa.cell0; have z1 := J4.xa.cell1; have z2 := J4.xb.cell0; have z3 := J4.xb.cell1; have z4 := J4.xc.cell0; have z5 := J4.xc.cell1; have z6 := J4.xx.cell0; have z7 := J4.xx.cell1) | (go_at_call_of 22 ab; refine (join_at _ _ _ _ _ _ _ dB dC hbb hbc (by omega) (by omega) (by have := J2.yb; rw [HPb.out] at this; exact this) (by have := J2.yc; rw [HPc.out] at this; exact this) dE HE.out.symm _ _ HNb.out HNc.out).mono ?_; rintro e w3 ⟨a3, l3, c3, rfl, y3, b3⟩; have y2' := y2.mono b3; have J3 := J2.below b3; have z0 := J3.xa.cell0; have z1 := J3.xa.cell1; have z2 := J3.xb.cell0; have z3 := J3.xb.cell1; have z4 := J3.xc.cell0; have z5 := J3.xc.cell1; have z6 := J3.xx.cell0; have z7 := J3.xx.cell1) | (go_at_call_of 15 a4; refine (refsame_same y2'' y4).mono ?_; rintro e w5 ⟨rfl, b5⟩; have J5 := J4.below b5; have z0 := J5.xa.cell0; have z1 := J5.xa.cell1; have z2 := J5.xb.cell0; have z3 := J5.xb.cell1; have z4 := J5.xc.cell0; have z5 := J5.xc.cell1; have z6 := J5.xx.cell0; have z7 := J5.xx.cell1) | (go_at_call_of 22 aa; refine (join_at _ _ _ _ _ _ _ dA [] hba IsBits.nil (by omega) (by simp) (by have := J5.ya; rw [HPa.out] at this; exact this) (bytesNone _) dA (by simp) _ 0 HNa.out (by simp)).mono ?_; rintro e w6 ⟨a6, l6, c6, rfl, y6, b6⟩; have J6 := J5.below b6; have z0 := J6.xa.cell0; have z1 := J6.xa.cell1; have z2 := J6.xb.cell0; have z3 := J6.xb.cell1; have z4 := J6.xc.cell0; have z5 := J6.xc.cell1; have z6 := J6.xx.cell0; have z7 := J6.xx.cell1) | (go_at_call_of 15 a6; refine (refsame_eq HNa.out.symm y6 (by have := J6.ya; rw [HPa.out] at this; exact this)).mono ?_; rintro e w7 ⟨rfl, b7⟩; have J7 := J6.below b7; have z0 := J7.xa.cell0; have z1 := J7.xa.cell1; have z2 := J7.xb.cell0; have z3 := J7.xb.cell1; have z4 := J7.xc.cell0; have z5 := J7.xc.cell1; have z6 := J7.xx.cell0; have z7 := J7.xx.cell1))
  go_wp2
  go_ret
  exact ⟨rfl, J7.bel⟩
set_option maxRecDepth 10000 in
set_option maxHeartbeats 16000000 in
theorem bitsjoin_f3 (w : World) (aa : Option Addr) (la ca : Nat) (pa : List Nat) (Na : Int) (ab : Option Addr) (lb cb : Nat) (pb : List Nat) (Nb : Int) (ac : Option Addr) (lc cc : Nat) (pc : List Nat) (Nc : Int) (at_ : Int) (wd : Nat) (hwd : wd < 256) (hat1 : -9223372036854775808 ≤ at_) (hat2 : at_ ≤ 9223372036854775807) (hN1a : -9223372036854775808 ≤ Na) (hN2a : Na ≤ 9223372036854775807) (hya : BytesAt w aa la ca pa) (hN1b : -9223372036854775808 ≤ Nb) (hN2b : Nb ≤ 9223372036854775807) (hyb : BytesAt w ab lb cb pb) (hN1c : -9223372036854775808 ≤ Nc) (hN2c : Nc ≤ 9223372036854775807) (hyc : BytesAt w ac lc cc pc) (hfa : la ≤ 100) (hfb : lb ≤ 100) (hfc : lc ≤ 100) (hra : RightI pa Na) (hrb : RightI pb Nb) (hrc : RightI pc Nc) (dA : List Nat) (hba : IsBits dA) (hpa : pa = pack dA) (hla : dA.length ≤ 1000) (hna : Na = (dA.length : Int)) (dB : List Nat) (hbb : IsBits dB) (hpb : pb = pack dB) (hlb : dB.length ≤ 1000) (hnb : Nb = (dB.length : Int)) (dC : List Nat) (hbc : IsBits dC) (hpc : pc = pack dC) (hlc : dC.length ≤ 1000) (hnc : Nc = (dC.length : Int)) (dX : List Nat) (hX : dX = dA ++ dB) (K : Nat) (hK : (wd : Int) % 65 = (K : Int)) (hf1 : ¬ at_ < 0) (hf2 : ¬ Nb < at_) (hf3 : Nb - at_ < (K : Int)) :
    Calls Try.prog 5 #[.agg #[.slice aa la ca, .int .i64 Na, .slice ab lb cb, .int .i64 Nb, .slice ac lc cc, .int .i64 Nc, .int .i64 at_, .int .u8 (wd : Int)]] w fun e w' => e = .returned (.bool true) ∧ Below w.heap.size w w' := by
  have hsa := hya.small
  have hsb := hyb.small
  have hsc := hyc.small
  have dfa : decide (la ≤ 100) = true := by simpa using hfa
  have dfb : decide (lb ≤ 100) = true := by simpa using hfb
  have dfc : decide (lc ≤ 100) = true := by simpa using hfc
  have dra : decide (RightI pa Na) = true := by simpa using hra
  have HRa := Lib.hid dra
  clear dra
  have drb : decide (RightI pb Nb) = true := by simpa using hrb
  have HRb := Lib.hid drb
  clear drb
  have drc : decide (RightI pc Nc) = true := by simpa using hrc
  have HRc := Lib.hid drc
  clear drc
  have hXb : IsBits dX := by rw [hX]; exact hba.append hbb
  have hXl : (dX.length : Int) = Na + Nb := by rw [hX, List.length_append]; omega
  obtain ⟨NX, hNX⟩ : ∃ NX : Int, NX = (dX.length : Int) := ⟨_, rfl⟩
  have hXN : Na + Nb = NX := by omega
  have hNX0 : 0 ≤ NX := by omega
  have hwrap : IntKind.i64.wrap NX = NX := by rw [IntKind.wrap_i64]; omega
  have hNX1 : NX ≤ 2000 := by omega
  have hXs : dX.length ≤ 2000 := by omega
  have hNa0 : 0 ≤ Na := by omega
  have hNa1 : Na ≤ 1000 := by omega
  have hNb0 : 0 ≤ Nb := by omega
  have hNb1 : Nb ≤ 1000 := by omega
  have hrX : decide (RightI (pack dX) NX) = true := by
    rw [decide_eq_true_iff, hNX]
    exact ⟨by omega, by rw [Int.toNat_natCast]; exact pack_right hXb⟩
  have HRX := Lib.hid hrX
  have hK64 : K ≤ 64 := by omega
  obtain ⟨dD, hD⟩ : ∃ dD, dD = dX ++ dC := ⟨_, rfl⟩
  obtain ⟨dE, hE⟩ : ∃ dE, dE = dB ++ dC := ⟨_, rfl⟩
  have hEb : IsBits dE := by rw [hE]; exact hbb.append hbc
  have hEl : dE.length ≤ 2000 := by rw [hE, List.length_append]; omega
  have hDE : dA ++ dE = dD := by rw [hD, hE, hX, List.append_assoc]
  have HD := Lib.hid hD
  have HE := Lib.hid hE
  have HDE := Lib.hid hDE
  clear hD hE hDE
  have HX := Lib.hid hX
  have HNX := Lib.hid hNX
  have HNa := Lib.hid hna
  have HNb := Lib.hid hnb
  have HNc := Lib.hid hnc
  have HPa := Lib.hid hpa
  have HPb := Lib.hid hpb
  have HPc := Lib.hid hpc
  clear hX hNX hna hnb hnc hpa hpb hpc hXl hrX
  have g1 : decide (at_ < 0) = false := by simpa using hf1
  have g2 : decide (Nb < at_) = false := by simpa using hf2
  have g3 : decide (Nb - at_ < (K : Int)) = true := by simpa using hf3
  obtain ⟨W4, hW4⟩ : ∃ W4, W4 = ((((w.alloc (.cells #[.slice aa la ca, .int .i64 Na, .slice ab lb cb, .int .i64 Nb, .slice ac lc cc, .int .i64 Nc, .int .i64 at_, .int .u8 (wd : Int)] 47)).alloc (.cells #[.slice aa la ca, .int .i64 Na] 24)).alloc (.cells #[.slice ab lb cb, .int .i64 Nb] 24)).alloc (.cells #[.slice ac lc cc, .int .i64 Nc] 24)) := ⟨_, rfl⟩
  have b0 : Below w.heap.size w W4 := by
    rw [hW4]
    exact (((((Below.refl _ _).alloc (Nat.le_refl _) _).alloc (by simp) _).alloc (by simp; omega) _).alloc (by simp; omega) _)
  have xa : BitsBox W4 (w.heap.size + 1) aa la ca Na := by
    rw [hW4]
    refine (Below.heap_alloc _ _ _ (by simp)).trans ((Below.heap_alloc _ _ _ (by simp)).trans ?_)
    have := World.alloc_heap_new (w.alloc (.cells #[.slice aa la ca, .int .i64 Na, .slice ab lb cb, .int .i64 Nb, .slice ac lc cc, .int .i64 Nc, .int .i64 at_, .int .u8 (wd : Int)] 47)) (.cells #[.slice aa la ca, .int .i64 Na] 24)
    rw [show (w.alloc (.cells #[.slice aa la ca, .int .i64 Na, .slice ab lb cb, .int .i64 Nb, .slice ac lc cc, .int .i64 Nc, .int .i64 at_, .int .u8 (wd : Int)] 47)).heap.size = w.heap.size + 1 from by simp] at this
    exact this
  have xb : BitsBox W4 (w.heap.size + 2) ab lb cb Nb := by
    rw [hW4]
    refine (Below.heap_alloc _ _ _ (by simp)).trans ?_
    have := World.alloc_heap_new ((w.alloc (.cells #[.slice aa la ca, .int .i64 Na, .slice ab lb cb, .int .i64 Nb, .slice ac lc cc, .int .i64 Nc, .int .i64 at_, .int .u8 (wd : Int)] 47)).alloc (.cells #[.slice aa la ca, .int .i64 Na] 24)) (.cells #[.slice ab lb cb, .int .i64 Nb] 24)
    rw [show ((w.alloc (.cells #[.slice aa la ca, .int .i64 Na, .slice ab lb cb, .int .i64 Nb, .slice ac lc cc, .int .i64 Nc, .int .i64 at_, .int .u8 (wd : Int)] 47)).alloc (.cells #[.slice aa la ca, .int .i64 Na] 24)).heap.size = w.heap.size + 2 from by simp] at this
    exact this
  have xc : BitsBox W4 (w.heap.size + 3) ac lc cc Nc := by
    rw [hW4]
    have := World.alloc_heap_new (((w.alloc (.cells #[.slice aa la ca, .int .i64 Na, .slice ab lb cb, .int .i64 Nb, .slice ac lc cc, .int .i64 Nc, .int .i64 at_, .int .u8 (wd : Int)] 47)).alloc (.cells #[.slice aa la ca, .int .i64 Na] 24)).alloc (.cells #[.slice ab lb cb, .int .i64 Nb] 24)) (.cells #[.slice ac lc cc, .int .i64 Nc] 24)
    rw [show (((w.alloc (.cells #[.slice aa la ca, .int .i64 Na, .slice ab lb cb, .int .i64 Nb, .slice ac lc cc, .int .i64 Nc, .int .i64 at_, .int .u8 (wd : Int)] 47)).alloc (.cells #[.slice aa la ca, .int .i64 Na] 24)).alloc (.cells #[.slice ab lb cb, .int .i64 Nb] 24)).heap.size = w.heap.size + 3 from by simp] at this
    exact this
  have ya := hya.mono b0
  have yb := hyb.mono b0
  have yc := hyc.mono b0
  go_enter Try.func5, Try.ntmps5
  go_wp2_with fail
  rw [← hW4]
  clear hW4
  refine (shown_any _).mono ?_
  rintro e ws ⟨rfl, bs1⟩
  have xa := xa.below bs1
  have xb := xb.below bs1
  have xc := xc.below bs1
  have ya := ya.mono bs1
  have yb := yb.mono bs1
  have yc := yc.mono bs1
  have Bel := below_then b0 bs1
  have xa_0 := xa.cell0
  have xa_1 := xa.cell1
  have xb_0 := xb.cell0
  have xb_1 := xb.cell1
  have xc_0 := xc.cell0
  have xc_1 := xc.cell1
  go_wp2_with fail
  refine (few_any _ aa la ca Na hsa).mono ?_
  rintro e wfa ⟨rfl, bfa⟩
  have xa := xa.below bfa
  have xb := xb.below bfa
  have xc := xc.below bfa
  have ya := ya.mono bfa
  have yb := yb.mono bfa
  have yc := yc.mono bfa
  have Bel := below_then Bel bfa
  have xa_0 := xa.cell0
  have xa_1 := xa.cell1
  have xb_0 := xb.cell0
  have xb_1 := xb.cell1
  have xc_0 := xc.cell0
  have xc_1 := xc.cell1
  rw [dfa]
  go_wp2_with fail
  refine (few_any _ ab lb cb Nb hsb).mono ?_
  rintro e wfb ⟨rfl, bfb⟩
  have xa := xa.below bfb
  have xb := xb.below bfb
  have xc := xc.below bfb
  have ya := ya.mono bfb
  have yb := yb.mono bfb
  have yc := yc.mono bfb
  have Bel := below_then Bel bfb
  have xa_0 := xa.cell0
  have xa_1 := xa.cell1
  have xb_0 := xb.cell0
  have xb_1 := xb.cell1
  have xc_0 := xc.cell0
  have xc_1 := xc.cell1
  rw [dfb]
  go_wp2_with fail
  refine (few_any _ ac lc cc Nc hsc).mono ?_
  rintro e wfc ⟨rfl, bfc⟩
  have xa := xa.below bfc
  have xb := xb.below bfc
  have xc := xc.below bfc
  have ya := ya.mono bfc
  have yb := yb.mono bfc
  have yc := yc.mono bfc
  have Bel := below_then Bel bfc
  have xa_0 := xa.cell0
  have xa_1 := xa.cell1
  have xb_0 := xb.cell0
  have xb_1 := xb.cell1
  have xc_0 := xc.cell0
  have xc_1 := xc.cell1
  rw [dfc]
  go_wp2_with fail
  refine (refright_any _ aa la ca pa Na hN1a hN2a (by omega) ya).mono ?_
  rintro e wra ⟨rfl, bra⟩
  have xa := xa.below bra
  have xb := xb.below bra
  have xc := xc.below bra
  have ya := ya.mono bra
  have yb := yb.mono bra
  have yc := yc.mono bra
  have Bel := below_then Bel bra
  have xa_0 := xa.cell0
  have xa_1 := xa.cell1
  have xb_0 := xb.cell0
  have xb_1 := xb.cell1
  have xc_0 := xc.cell0
  have xc_1 := xc.cell1
  rw [HRa.out]
  go_wp2_with fail
  refine (refright_any _ ab lb cb pb Nb hN1b hN2b (by omega) yb).mono ?_
  rintro e wrb ⟨rfl, brb⟩
  have xa := xa.below brb
  have xb := xb.below brb
  have xc := xc.below brb
  have ya := ya.mono brb
  have yb := yb.mono brb
  have yc := yc.mono brb
  have Bel := below_then Bel brb
  have xa_0 := xa.cell0
  have xa_1 := xa.cell1
  have xb_0 := xb.cell0
  have xb_1 := xb.cell1
  have xc_0 := xc.cell0
  have xc_1 := xc.cell1
  rw [HRb.out]
  go_wp2_with fail
  refine (refright_any _ ac lc cc pc Nc hN1c hN2c (by omega) yc).mono ?_
  rintro e wrc ⟨rfl, brc⟩
  have xa := xa.below brc
  have xb := xb.below brc
  have xc := xc.below brc
  have ya := ya.mono brc
  have yb := yb.mono brc
  have yc := yc.mono brc
  have Bel := below_then Bel brc
  have xa_0 := xa.cell0
  have xa_1 := xa.cell1
  have xb_0 := xb.cell0
  have xb_1 := xb.cell1
  have xc_0 := xc.cell0
  have xc_1 := xc.cell1
  rw [HRc.out]
  rw [HPa.out] at ya
  rw [HPb.out] at yb
  rw [HPc.out] at yc
  go_wp2_with fail
  refine (join_at _ _ _ _ _ _ _ dA dB hba hbb (by omega) (by omega) ya yb dX HX.out.symm _ _ HNa.out HNb.out).mono ?_
  rintro e wx ⟨ax, lx, cx, rfl, yx, bx⟩
  rw [← HNX.out]
  have xa := xa.below bx
  have xb := xb.below bx
  have xc := xc.below bx
  have ya := ya.mono bx
  have yb := yb.mono bx
  have yc := yc.mono bx
  have Bel := below_then Bel bx
  have xx : BitsBox (wx.alloc (.cells #[.slice ax lx cx, .int .i64 NX] 24)) wx.heap.size ax lx cx NX := World.alloc_heap_new _ _
  have xa := xa.below ((Below.refl wx.heap.size wx).alloc (Nat.le_refl _) (.cells #[.slice ax lx cx, .int .i64 NX] 24))
  have xb := xb.below ((Below.refl wx.heap.size wx).alloc (Nat.le_refl _) (.cells #[.slice ax lx cx, .int .i64 NX] 24))
  have xc := xc.below ((Below.refl wx.heap.size wx).alloc (Nat.le_refl _) (.cells #[.slice ax lx cx, .int .i64 NX] 24))
  have ya := ya.mono ((Below.refl wx.heap.size wx).alloc (Nat.le_refl _) (.cells #[.slice ax lx cx, .int .i64 NX] 24))
  have yb := yb.mono ((Below.refl wx.heap.size wx).alloc (Nat.le_refl _) (.cells #[.slice ax lx cx, .int .i64 NX] 24))
  have yc := yc.mono ((Below.refl wx.heap.size wx).alloc (Nat.le_refl _) (.cells #[.slice ax lx cx, .int .i64 NX] 24))
  have yx := yx.mono ((Below.refl wx.heap.size wx).alloc (Nat.le_refl _) (.cells #[.slice ax lx cx, .int .i64 NX] 24))
  have Bel := below_new Bel (.cells #[.slice ax lx cx, .int .i64 NX] 24)
  rw [← HPa.out] at ya
  rw [← HPb.out] at yb
  rw [← HPc.out] at yc
  have J0 : Quad w (wx.alloc (.cells #[.slice ax lx cx, .int .i64 NX] 24)).drew w.heap.size wx.heap.size aa la ca Na pa ab lb cb Nb pb ac lc cc Nc pc ax lx cx NX (pack dX) := ⟨xa.below (Below.refl _ _).drew, xb.below (Below.refl _ _).drew, xc.below (Below.refl _ _).drew, xx.below (Below.refl _ _).drew, ya.mono (Below.refl _ _).drew, yb.mono (Below.refl _ _).drew, yc.mono (Below.refl _ _).drew, yx.mono (Below.refl _ _).drew, Bel.drew⟩
  have q0 := J0.xa.cell0; have q1 := J0.xa.cell1; have q2 := J0.xb.cell0; have q3 := J0.xb.cell1; have q4 := J0.xc.cell0; have q5 := J0.xc.cell1; have q6 := J0.xx.cell0; have q7 := J0.xx.cell1
  have xa_0 := xa.cell0
  have xa_1 := xa.cell1
  have xb_0 := xb.cell0
  have xb_1 := xb.cell1
  have xc_0 := xc.cell0
  have xc_1 := xc.cell1
  have xx_0 := xx.cell0
  have xx_1 := xx.cell1
  go_wp2
  go_region_held3 (fun w' => Quad w w' w.heap.size wx.heap.size aa la ca Na pa ab lb cb Nb pb ac lc cc Nc pc ax lx cx NX (pack dX) ∧ w'.cell? ⟨w.heap.size + 1, 0, none⟩ = some (.slice aa la ca) ∧ w'.cell? ⟨w.heap.size + 1, 1, none⟩ = some (.int .i64 Na) ∧ w'.cell? ⟨w.heap.size + 2, 0, none⟩ = some (.slice ab lb cb) ∧ w'.cell? ⟨w.heap.size + 2, 1, none⟩ = some (.int .i64 Nb) ∧ w'.cell? ⟨w.heap.size + 3, 0, none⟩ = some (.slice ac lc cc) ∧ w'.cell? ⟨w.heap.size + 3, 1, none⟩ = some (.int .i64 Nc) ∧ w'.cell? ⟨wx.heap.size, 0, none⟩ = some (.slice ax lx cx) ∧ w'.cell? ⟨wx.heap.size, 1, none⟩ = some (.int .i64 NX))
    (first | exact ⟨J0, q0, q1, q2, q3, q4, q5, q6, q7⟩ | exact ⟨by assumption, z0, z1, z2, z3, z4, z5, z6, z7⟩)
    (first | (go_at_call 12; refine (refright_any _ ax lx cx (pack dX) NX (by omega) (by omega) (by have := yx.len_eq; rw [pack_length] at this; omega) J0.yx).mono ?_; rintro e w1 ⟨rfl, b1⟩; rw [HRX.out]; have J1 := J0.below b1; have z0 := J1.xa.cell0; have z1 := J1.xa.cell1; have z2 := J1.xb.cell0; have z3 := J1.xb.cell1; have z4 := J1.xc.cell0; have z5 := J1.xc.cell1; have z6 := J1.xx.cell0; have z7 := J1.xx.cell1) | (go_at_call_of 22 ax; refine (join_at _ _ _ _ _ _ _ dX dC hXb hbc (by omega) (by omega) J1.yx (by have := J1.yc; rw [HPc.out] at this; exact this) dD HD.out.symm _ _ HNX.out HNc.out).mono ?_; rintro e w2 ⟨a2, l2, c2, rfl, y2, b2⟩; have J2 := J1.below b2; have z0 := J2.xa.cell0; have z1 := J2.xa.cell1; have z2 := J2.xb.cell0; have z3 := J2.xb.cell1; have z4 := J2.xc.cell0; have z5 := J2.xc.cell1; have z6 := J2.xx.cell0; have z7 := J2.xx.cell1) | (go_at_call_of 22 a3; refine (join_at _ _ _ _ _ _ _ dA dE hba hEb (by omega) (by omega) (by have := J3.ya; rw [HPa.out] at this; exact this) y3 dD HDE.out _ _ HNa.out rfl).mono ?_; rintro e w4 ⟨a4, l4, c4, rfl, y4, b4⟩; have y2'' := y2'.mono b4; have J4 := J3.below b4; have z0 := J4.xa.cell0; have z1 := J4.xa.cell1; have z2 := J4.xb.cell0; have z3 := J4.xb.cell1; have z4 := J4.xc.cell0; have z5 := J4.xc.cell1; have z6 := J4.xx.cell0; have z7 := J4.xx.cell1) | (go_at_call_of 22 ab; refine (join_at _ _ _ _ _ _ _ dB dC hbb hbc (by omega) (by omega) (by have := J2.yb; rw [HPb.out] at this; exact this) (by have := J2.yc; rw [HPc.out] at this; exact this) dE HE.out.symm _ _ HNb.out HNc.out).mono ?_; rintro e w3 ⟨a3, l3, c3, rfl, y3, b3⟩; have y2' := y2.mono b3; have J3 := J2.below b3; have z0 := J3.xa.cell0; have z1 := J3.xa.cell1; have z2 := J3.xb.cell0; have z3 := J3.xb.cell1; have z4 := J3.xc.cell0; have z5 := J3.xc.cell1; have z6 := J3.xx.cell0; have z7 := J3.xx.cell1) | (go_at_call_of 15 a4; refine (refsame_same y2'' y4).mono ?_; rintro e w5 ⟨rfl, b5⟩; have J5 := J4.below b5; have z0 := J5.xa.cell0; have z1 := J5.xa.cell1; have z2 := J5.xb.cell0; have z3 := J5.xb.cell1; have z4 := J5.xc.cell0; have z5 := J5.xc.cell1; have z6 := J5.xx.cell0; have z7 := J5.xx.cell1) | (go_at_call_of 22 aa; refine (join_at _ _ _ _ _ _ _ dA [] hba IsBits.nil (by omega) (by simp) (by have := J5.ya; rw [HPa.out] at this; exact this) (bytesNone _) dA (by simp) _ 0 HNa.out (by simp)).mono ?_; rintro e w6 ⟨a6, l6, c6, rfl, y6, b6⟩; have J6 := J5.below b6; have z0 := J6.xa.cell0; have z1 := J6.xa.cell1; have z2 := J6.xb.cell0; have z3 := J6.xb.cell1; have z4 := J6.xc.cell0; have z5 := J6.xc.cell1; have z6 := J6.xx.cell0; have z7 := J6.xx.cell1) | (go_at_call_of 15 a6; refine (refsame_eq HNa.out.symm y6 (by have := J6.ya; rw [HPa.out] at this; exact this)).mono ?_; rintro e w7 ⟨rfl, b7⟩; have J7 := J6.below b7; have z0 := J7.xa.cell0; have z1 := J7.xa.cell1; have z2 := J7.xb.cell0; have z3 := J7.xb.cell1; have z4 := J7.xc.cell0; have z5 := J7.xc.cell1; have z6 := J7.xx.cell0; have z7 := J7.xx.cell1))
  go_wp2
  go_ret
  exact ⟨rfl, J7.bel⟩
end Go.Proofs.Yticbbldlhbooeaa
