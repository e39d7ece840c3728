/- BitsJoin returns true. -/
import Derived.Test.YticbbldlhbooeaaBitsHead
import Derived.Test.YticbbldlhbooeaaBitsWide
import Derived.Test.YticbbldlhbooeaaBitsRef6
import Derived.Test.YticbbldlhbooeaaBitsBack
namespace Go.Proofs.Yticbbldlhbooeaa
open Go.RowKit
set_option linter.unusedVariables false

set_option maxHeartbeats 8000000 in
theorem bitsjoin_no0 (w : World) (aa : Option Addr) (la ca : Nat) (pa : List Nat) (Na : Int) (ab : Option Addr) (lb cb : Nat) (pb : List Nat) (Nb : Int) (ac : Option Addr) (lc cc : Nat) (pc : List Nat) (Nc : Int) (at_ : Int) (wd : Nat) (hwd : wd < 256) (hat1 : -9223372036854775808 ≤ at_) (hat2 : at_ ≤ 9223372036854775807) (hN1a : -9223372036854775808 ≤ Na) (hN2a : Na ≤ 9223372036854775807) (hya : BytesAt w aa la ca pa) (hN1b : -9223372036854775808 ≤ Nb) (hN2b : Nb ≤ 9223372036854775807) (hyb : BytesAt w ab lb cb pb) (hN1c : -9223372036854775808 ≤ Nc) (hN2c : Nc ≤ 9223372036854775807) (hyc : BytesAt w ac lc cc pc) (hfa : ¬ la ≤ 100) :
    Calls Try.prog 5 #[.agg #[.slice aa la ca, .int .i64 Na, .slice ab lb cb, .int .i64 Nb, .slice ac lc cc, .int .i64 Nc, .int .i64 at_, .int .u8 (wd : Int)]] w fun e w' => e = .returned (.bool true) ∧ Below w.heap.size w w' := by
  have hsa := hya.small
  have hsb := hyb.small
  have hsc := hyc.small
  have dfa : decide (la ≤ 100) = false := by simpa using hfa
  obtain ⟨W4, hW4⟩ : ∃ W4, W4 = ((((w.alloc (.cells #[.slice aa la ca, .int .i64 Na, .slice ab lb cb, .int .i64 Nb, .slice ac lc cc, .int .i64 Nc, .int .i64 at_, .int .u8 (wd : Int)] 47)).alloc (.cells #[.slice aa la ca, .int .i64 Na] 24)).alloc (.cells #[.slice ab lb cb, .int .i64 Nb] 24)).alloc (.cells #[.slice ac lc cc, .int .i64 Nc] 24)) := ⟨_, rfl⟩
  have b0 : Below w.heap.size w W4 := by
    rw [hW4]
    exact (((((Below.refl _ _).alloc (Nat.le_refl _) _).alloc (by simp) _).alloc (by simp; omega) _).alloc (by simp; omega) _)
  have xa : BitsBox W4 (w.heap.size + 1) aa la ca Na := by
    rw [hW4]
    refine (Below.heap_alloc _ _ _ (by simp)).trans ((Below.heap_alloc _ _ _ (by simp)).trans ?_)
    have := World.alloc_heap_new (w.alloc (.cells #[.slice aa la ca, .int .i64 Na, .slice ab lb cb, .int .i64 Nb, .slice ac lc cc, .int .i64 Nc, .int .i64 at_, .int .u8 (wd : Int)] 47)) (.cells #[.slice aa la ca, .int .i64 Na] 24)
    rw [show (w.alloc (.cells #[.slice aa la ca, .int .i64 Na, .slice ab lb cb, .int .i64 Nb, .slice ac lc cc, .int .i64 Nc, .int .i64 at_, .int .u8 (wd : Int)] 47)).heap.size = w.heap.size + 1 from by simp] at this
    exact this
  have xb : BitsBox W4 (w.heap.size + 2) ab lb cb Nb := by
    rw [hW4]
    refine (Below.heap_alloc _ _ _ (by simp)).trans ?_
    have := World.alloc_heap_new ((w.alloc (.cells #[.slice aa la ca, .int .i64 Na, .slice ab lb cb, .int .i64 Nb, .slice ac lc cc, .int .i64 Nc, .int .i64 at_, .int .u8 (wd : Int)] 47)).alloc (.cells #[.slice aa la ca, .int .i64 Na] 24)) (.cells #[.slice ab lb cb, .int .i64 Nb] 24)
    rw [show ((w.alloc (.cells #[.slice aa la ca, .int .i64 Na, .slice ab lb cb, .int .i64 Nb, .slice ac lc cc, .int .i64 Nc, .int .i64 at_, .int .u8 (wd : Int)] 47)).alloc (.cells #[.slice aa la ca, .int .i64 Na] 24)).heap.size = w.heap.size + 2 from by simp] at this
    exact this
  have xc : BitsBox W4 (w.heap.size + 3) ac lc cc Nc := by
    rw [hW4]
    have := World.alloc_heap_new (((w.alloc (.cells #[.slice aa la ca, .int .i64 Na, .slice ab lb cb, .int .i64 Nb, .slice ac lc cc, .int .i64 Nc, .int .i64 at_, .int .u8 (wd : Int)] 47)).alloc (.cells #[.slice aa la ca, .int .i64 Na] 24)).alloc (.cells #[.slice ab lb cb, .int .i64 Nb] 24)) (.cells #[.slice ac lc cc, .int .i64 Nc] 24)
    rw [show (((w.alloc (.cells #[.slice aa la ca, .int .i64 Na, .slice ab lb cb, .int .i64 Nb, .slice ac lc cc, .int .i64 Nc, .int .i64 at_, .int .u8 (wd : Int)] 47)).alloc (.cells #[.slice aa la ca, .int .i64 Na] 24)).alloc (.cells #[.slice ab lb cb, .int .i64 Nb] 24)).heap.size = w.heap.size + 3 from by simp] at this
    exact this
  have ya := hya.mono b0
  have yb := hyb.mono b0
  have yc := hyc.mono b0
  go_enter Try.func5, Try.ntmps5
  go_wp2_with fail
  rw [← hW4]
  clear hW4
  refine (shown_any _).mono ?_
  rintro e ws ⟨rfl, bs1⟩
  have xa := xa.below bs1
  have xb := xb.below bs1
  have xc := xc.below bs1
  have ya := ya.mono bs1
  have yb := yb.mono bs1
  have yc := yc.mono bs1
  have Bel := below_then b0 bs1
  have xa_0 := xa.cell0
  have xa_1 := xa.cell1
  have xb_0 := xb.cell0
  have xb_1 := xb.cell1
  have xc_0 := xc.cell0
  have xc_1 := xc.cell1
  go_wp2_with fail
  refine (few_any _ aa la ca Na hsa).mono ?_
  rintro e wfa ⟨rfl, bfa⟩
  have xa := xa.below bfa
  have xb := xb.below bfa
  have xc := xc.below bfa
  have ya := ya.mono bfa
  have yb := yb.mono bfa
  have yc := yc.mono bfa
  have Bel := below_then Bel bfa
  have xa_0 := xa.cell0
  have xa_1 := xa.cell1
  have xb_0 := xb.cell0
  have xb_1 := xb.cell1
  have xc_0 := xc.cell0
  have xc_1 := xc.cell1
  rw [dfa]
  go_wp2
  go_ret
  exact ⟨rfl, Bel⟩
set_option maxHeartbeats 8000000 in
theorem bitsjoin_no1 (w : World) (aa : Option Addr) (la ca : Nat) (pa : List Nat) (Na : Int) (ab : Option Addr) (lb cb : Nat) (pb : List Nat) (Nb : Int) (ac : Option Addr) (lc cc : Nat) (pc : List Nat) (Nc : Int) (at_ : Int) (wd : Nat) (hwd : wd < 256) (hat1 : -9223372036854775808 ≤ at_) (hat2 : at_ ≤ 9223372036854775807) (hN1a : -9223372036854775808 ≤ Na) (hN2a : Na ≤ 9223372036854775807) (hya : BytesAt w aa la ca pa) (hN1b : -9223372036854775808 ≤ Nb) (hN2b : Nb ≤ 9223372036854775807) (hyb : BytesAt w ab lb cb pb) (hN1c : -9223372036854775808 ≤ Nc) (hN2c : Nc ≤ 9223372036854775807) (hyc : BytesAt w ac lc cc pc) (hfa : la ≤ 100) (hfb : ¬ lb ≤ 100) :
    Calls Try.prog 5 #[.agg #[.slice aa la ca, .int .i64 Na, .slice ab lb cb, .int .i64 Nb, .slice ac lc cc, .int .i64 Nc, .int .i64 at_, .int .u8 (wd : Int)]] w fun e w' => e = .returned (.bool true) ∧ Below w.heap.size w w' := by
  have hsa := hya.small
  have hsb := hyb.small
  have hsc := hyc.small
  have dfa : decide (la ≤ 100) = true := by simpa using hfa
  have dfb : decide (lb ≤ 100) = false := by simpa using hfb
  obtain ⟨W4, hW4⟩ : ∃ W4, W4 = ((((w.alloc (.cells #[.slice aa la ca, .int .i64 Na, .slice ab lb cb, .int .i64 Nb, .slice ac lc cc, .int .i64 Nc, .int .i64 at_, .int .u8 (wd : Int)] 47)).alloc (.cells #[.slice aa la ca, .int .i64 Na] 24)).alloc (.cells #[.slice ab lb cb, .int .i64 Nb] 24)).alloc (.cells #[.slice ac lc cc, .int .i64 Nc] 24)) := ⟨_, rfl⟩
  have b0 : Below w.heap.size w W4 := by
    rw [hW4]
    exact (((((Below.refl _ _).alloc (Nat.le_refl _) _).alloc (by simp) _).alloc (by simp; omega) _).alloc (by simp; omega) _)
  have xa : BitsBox W4 (w.heap.size + 1) aa la ca Na := by
    rw [hW4]
    refine (Below.heap_alloc _ _ _ (by simp)).trans ((Below.heap_alloc _ _ _ (by simp)).trans ?_)
    have := World.alloc_heap_new (w.alloc (.cells #[.slice aa la ca, .int .i64 Na, .slice ab lb cb, .int .i64 Nb, .slice ac lc cc, .int .i64 Nc, .int .i64 at_, .int .u8 (wd : Int)] 47)) (.cells #[.slice aa la ca, .int .i64 Na] 24)
    rw [show (w.alloc (.cells #[.slice aa la ca, .int .i64 Na, .slice ab lb cb, .int .i64 Nb, .slice ac lc cc, .int .i64 Nc, .int .i64 at_, .int .u8 (wd : Int)] 47)).heap.size = w.heap.size + 1 from by simp] at this
    exact this
  have xb : BitsBox W4 (w.heap.size + 2) ab lb cb Nb := by
    rw [hW4]
    refine (Below.heap_alloc _ _ _ (by simp)).trans ?_
    have := World.alloc_heap_new ((w.alloc (.cells #[.slice aa la ca, .int .i64 Na, .slice ab lb cb, .int .i64 Nb, .slice ac lc cc, .int .i64 Nc, .int .i64 at_, .int .u8 (wd : Int)] 47)).alloc (.cells #[.slice aa la ca, .int .i64 Na] 24)) (.cells #[.slice ab lb cb, .int .i64 Nb] 24)
    rw [show ((w.alloc (.cells #[.slice aa la ca, .int .i64 Na, .slice ab lb cb, .int .i64 Nb, .slice ac lc cc, .int .i64 Nc, .int .i64 at_, .int .u8 (wd : Int)] 47)).alloc (.cells #[.slice aa la ca, .int .i64 Na] 24)).heap.size = w.heap.size + 2 from by simp] at this
    exact this
  have xc : BitsBox W4 (w.heap.size + 3) ac lc cc Nc := by
    rw [hW4]
    have := World.alloc_heap_new (((w.alloc (.cells #[.slice aa la ca, .int .i64 Na, .slice ab lb cb, .int .i64 Nb, .slice ac lc cc, .int .i64 Nc, .int .i64 at_, .int .u8 (wd : Int)] 47)).alloc (.cells #[.slice aa la ca, .int .i64 Na] 24)).alloc (.cells #[.slice ab lb cb, .int .i64 Nb] 24)) (.cells #[.slice ac lc cc, .int .i64 Nc] 24)
    rw [show (((w.alloc (.cells #[.slice aa la ca, .int .i64 Na, .slice ab lb cb, .int .i64 Nb, .slice ac lc cc, .int .i64 Nc, .int .i64 at_, .int .u8 (wd : Int)] 47)).alloc (.cells #[.slice aa la ca, .int .i64 Na] 24)).alloc (.cells #[.slice ab lb cb, .int .i64 Nb] 24)).heap.size = w.heap.size + 3 from by simp] at this
    exact this
  have ya := hya.mono b0
  have yb := hyb.mono b0
  have yc := hyc.mono b0
  go_enter Try.func5, Try.ntmps5
  go_wp2_with fail
  rw [← hW4]
  clear hW4
  refine (shown_any _).mono ?_
  rintro e ws ⟨rfl, bs1⟩
  have xa := xa.below bs1
  have xb := xb.below bs1
  have xc := xc.below bs1
  have ya := ya.mono bs1
  have yb := yb.mono bs1
  have yc := yc.mono bs1
  have Bel := below_then b0 bs1
  have xa_0 := xa.cell0
  have xa_1 := xa.cell1
  have xb_0 := xb.cell0
  have xb_1 := xb.cell1
  have xc_0 := xc.cell0
  have xc_1 := xc.cell1
  go_wp2_with fail
  refine (few_any _ aa la ca Na hsa).mono ?_
  rintro e wfa ⟨rfl, bfa⟩
  have xa := xa.below bfa
  have xb := xb.below bfa
  have xc := xc.below bfa
  have ya := ya.mono bfa
  have yb := yb.mono bfa
  have yc := yc.mono bfa
  have Bel := below_then Bel bfa
  have xa_0 := xa.cell0
  have xa_1 := xa.cell1
  have xb_0 := xb.cell0
  have xb_1 := xb.cell1
  have xc_0 := xc.cell0
  have xc_1 := xc.cell1
  rw [dfa]
  go_wp2_with fail
  refine (few_any _ ab lb cb Nb hsb).mono ?_
  rintro e wfb ⟨rfl, bfb⟩
  have xa := xa.below bfb
  have xb := xb.below bfb
  have xc := xc.below bfb
  have ya := ya.mono bfb
  have yb := yb.mono bfb
  have yc := yc.mono bfb
  have Bel := below_then Bel bfb
  have xa_0 := xa.cell0
  have xa_1 := xa.cell1
  have xb_0 := xb.cell0
  have xb_1 := xb.cell1
  have xc_0 := xc.cell0
  have xc_1 := xc.cell1
  rw [dfb]
  go_wp2
  go_ret
  exact ⟨rfl, Bel⟩
set_option maxHeartbeats 8000000 in
theorem bitsjoin_no2 (w : World) (aa : Option Addr) (la ca : Nat) (pa : List Nat) (Na : Int) (ab : Option Addr) (lb cb : Nat) (pb : List Nat) (Nb : Int) (ac : Option Addr) (lc cc : Nat) (pc : List Nat) (Nc : Int) (at_ : Int) (wd : Nat) (hwd : wd < 256) (hat1 : -9223372036854775808 ≤ at_) (hat2 : at_ ≤ 9223372036854775807) (hN1a : -9223372036854775808 ≤ Na) (hN2a : Na ≤ 9223372036854775807) (hya : BytesAt w aa la ca pa) (hN1b : -9223372036854775808 ≤ Nb) (hN2b : Nb ≤ 9223372036854775807) (hyb : BytesAt w ab lb cb pb) (hN1c : -9223372036854775808 ≤ Nc) (hN2c : Nc ≤ 9223372036854775807) (hyc : BytesAt w ac lc cc pc) (hfa : la ≤ 100) (hfb : lb ≤ 100) (hfc : ¬ lc ≤ 100) :
    Calls Try.prog 5 #[.agg #[.slice aa la ca, .int .i64 Na, .slice ab lb cb, .int .i64 Nb, .slice ac lc cc, .int .i64 Nc, .int .i64 at_, .int .u8 (wd : Int)]] w fun e w' => e = .returned (.bool true) ∧ Below w.heap.size w w' := by
  have hsa := hya.small
  have hsb := hyb.small
  have hsc := hyc.small
  have dfa : decide (la ≤ 100) = true := by simpa using hfa
  have dfb : decide (lb ≤ 100) = true := by simpa using hfb
  have dfc : decide (lc ≤ 100) = false := by simpa using hfc
  obtain ⟨W4, hW4⟩ : ∃ W4, W4 = ((((w.alloc (.cells #[.slice aa la ca, .int .i64 Na, .slice ab lb cb, .int .i64 Nb, .slice ac lc cc, .int .i64 Nc, .int .i64 at_, .int .u8 (wd : Int)] 47)).alloc (.cells #[.slice aa la ca, .int .i64 Na] 24)).alloc (.cells #[.slice ab lb cb, .int .i64 Nb] 24)).alloc (.cells #[.slice ac lc cc, .int .i64 Nc] 24)) := ⟨_, rfl⟩
  have b0 : Below w.heap.size w W4 := by
    rw [hW4]
    exact (((((Below.refl _ _).alloc (Nat.le_refl _) _).alloc (by simp) _).alloc (by simp; omega) _).alloc (by simp; omega) _)
  have xa : BitsBox W4 (w.heap.size + 1) aa la ca Na := by
    rw [hW4]
    refine (Below.heap_alloc _ _ _ (by simp)).trans ((Below.heap_alloc _ _ _ (by simp)).trans ?_)
    have := World.alloc_heap_new (w.alloc (.cells #[.slice aa la ca, .int .i64 Na, .slice ab lb cb, .int .i64 Nb, .slice ac lc cc, .int .i64 Nc, .int .i64 at_, .int .u8 (wd : Int)] 47)) (.cells #[.slice aa la ca, .int .i64 Na] 24)
    rw [show (w.alloc (.cells #[.slice aa la ca, .int .i64 Na, .slice ab lb cb, .int .i64 Nb, .slice ac lc cc, .int .i64 Nc, .int .i64 at_, .int .u8 (wd : Int)] 47)).heap.size = w.heap.size + 1 from by simp] at this
    exact this
  have xb : BitsBox W4 (w.heap.size + 2) ab lb cb Nb := by
    rw [hW4]
    refine (Below.heap_alloc _ _ _ (by simp)).trans ?_
    have := World.alloc_heap_new ((w.alloc (.cells #[.slice aa la ca, .int .i64 Na, .slice ab lb cb, .int .i64 Nb, .slice ac lc cc, .int .i64 Nc, .int .i64 at_, .int .u8 (wd : Int)] 47)).alloc (.cells #[.slice aa la ca, .int .i64 Na] 24)) (.cells #[.slice ab lb cb, .int .i64 Nb] 24)
    rw [show ((w.alloc (.cells #[.slice aa la ca, .int .i64 Na, .slice ab lb cb, .int .i64 Nb, .slice ac lc cc, .int .i64 Nc, .int .i64 at_, .int .u8 (wd : Int)] 47)).alloc (.cells #[.slice aa la ca, .int .i64 Na] 24)).heap.size = w.heap.size + 2 from by simp] at this
    exact this
  have xc : BitsBox W4 (w.heap.size + 3) ac lc cc Nc := by
    rw [hW4]
    have := World.alloc_heap_new (((w.alloc (.cells #[.slice aa la ca, .int .i64 Na, .slice ab lb cb, .int .i64 Nb, .slice ac lc cc, .int .i64 Nc, .int .i64 at_, .int .u8 (wd : Int)] 47)).alloc (.cells #[.slice aa la ca, .int .i64 Na] 24)).alloc (.cells #[.slice ab lb cb, .int .i64 Nb] 24)) (.cells #[.slice ac lc cc, .int .i64 Nc] 24)
    rw [show (((w.alloc (.cells #[.slice aa la ca, .int .i64 Na, .slice ab lb cb, .int .i64 Nb, .slice ac lc cc, .int .i64 Nc, .int .i64 at_, .int .u8 (wd : Int)] 47)).alloc (.cells #[.slice aa la ca, .int .i64 Na] 24)).alloc (.cells #[.slice ab lb cb, .int .i64 Nb] 24)).heap.size = w.heap.size + 3 from by simp] at this
    exact this
  have ya := hya.mono b0
  have yb := hyb.mono b0
  have yc := hyc.mono b0
  go_enter Try.func5, Try.ntmps5
  go_wp2_with fail
  rw [← hW4]
  clear hW4
  refine (shown_any _).mono ?_
  rintro e ws ⟨rfl, bs1⟩
  have xa := xa.below bs1
  have xb := xb.below bs1
  have xc := xc.below bs1
  have ya := ya.mono bs1
  have yb := yb.mono bs1
  have yc := yc.mono bs1
  have Bel := below_then b0 bs1
  have xa_0 := xa.cell0
  have xa_1 := xa.cell1
  have xb_0 := xb.cell0
  have xb_1 := xb.cell1
  have xc_0 := xc.cell0
  have xc_1 := xc.cell1
  go_wp2_with fail
  refine (few_any _ aa la ca Na hsa).mono ?_
  rintro e wfa ⟨rfl, bfa⟩
  have xa := xa.below bfa
  have xb := xb.below bfa
  have xc := xc.below bfa
  have ya := ya.mono bfa
  have yb := yb.mono bfa
  have yc := yc.mono bfa
  have Bel := below_then Bel bfa
  have xa_0 := xa.cell0
  have xa_1 := xa.cell1
  have xb_0 := xb.cell0
  have xb_1 := xb.cell1
  have xc_0 := xc.cell0
  have xc_1 := xc.cell1
  rw [dfa]
  go_wp2_with fail
  refine (few_any _ ab lb cb Nb hsb).mono ?_
  rintro e wfb ⟨rfl, bfb⟩
  have xa := xa.below bfb
  have xb := xb.below bfb
  have xc := xc.below bfb
  have ya := ya.mono bfb
  have yb := yb.mono bfb
  have yc := yc.mono bfb
  have Bel := below_then Bel bfb
  have xa_0 := xa.cell0
  have xa_1 := xa.cell1
  have xb_0 := xb.cell0
  have xb_1 := xb.cell1
  have xc_0 := xc.cell0
  have xc_1 := xc.cell1
  rw [dfb]
  go_wp2_with fail
  refine (few_any _ ac lc cc Nc hsc).mono ?_
  rintro e wfc ⟨rfl, bfc⟩
  have xa := xa.below bfc
  have xb := xb.below bfc
  have xc := xc.below bfc
  have ya := ya.mono bfc
  have yb := yb.mono bfc
  have yc := yc.mono bfc
  have Bel := below_then Bel bfc
  have xa_0 := xa.cell0
  have xa_1 := xa.cell1
  have xb_0 := xb.cell0
  have xb_1 := xb.cell1
  have xc_0 := xc.cell0
  have xc_1 := xc.cell1
  rw [dfc]
  go_wp2
  go_ret
  exact ⟨rfl, Bel⟩
set_option maxHeartbeats 8000000 in
theorem bitsjoin_no3 (w : World) (aa : Option Addr) (la ca : Nat) (pa : List Nat) (Na : Int) (ab : Option Addr) (lb cb : Nat) (pb : List Nat) (Nb : Int) (ac : Option Addr) (lc cc : Nat) (pc : List Nat) (Nc : Int) (at_ : Int) (wd : Nat) (hwd : wd < 256) (hat1 : -9223372036854775808 ≤ at_) (hat2 : at_ ≤ 9223372036854775807) (hN1a : -9223372036854775808 ≤ Na) (hN2a : Na ≤ 9223372036854775807) (hya : BytesAt w aa la ca pa) (hN1b : -9223372036854775808 ≤ Nb) (hN2b : Nb ≤ 9223372036854775807) (hyb : BytesAt w ab lb cb pb) (hN1c : -9223372036854775808 ≤ Nc) (hN2c : Nc ≤ 9223372036854775807) (hyc : BytesAt w ac lc cc pc) (hfa : la ≤ 100) (hfb : lb ≤ 100) (hfc : lc ≤ 100) (hra : ¬ RightI pa Na) :
    Calls Try.prog 5 #[.agg #[.slice aa la ca, .int .i64 Na, .slice ab lb cb, .int .i64 Nb, .slice ac lc cc, .int .i64 Nc, .int .i64 at_, .int .u8 (wd : Int)]] w fun e w' => e = .returned (.bool true) ∧ Below w.heap.size w w' := by
  have hsa := hya.small
  have hsb := hyb.small
  have hsc := hyc.small
  have dfa : decide (la ≤ 100) = true := by simpa using hfa
  have dfb : decide (lb ≤ 100) = true := by simpa using hfb
  have dfc : decide (lc ≤ 100) = true := by simpa using hfc
  have dra : decide (RightI pa Na) = false := by simpa using hra
  have HRa := Lib.hid dra
  clear dra
  obtain ⟨W4, hW4⟩ : ∃ W4, W4 = ((((w.alloc (.cells #[.slice aa la ca, .int .i64 Na, .slice ab lb cb, .int .i64 Nb, .slice ac lc cc, .int .i64 Nc, .int .i64 at_, .int .u8 (wd : Int)] 47)).alloc (.cells #[.slice aa la ca, .int .i64 Na] 24)).alloc (.cells #[.slice ab lb cb, .int .i64 Nb] 24)).alloc (.cells #[.slice ac lc cc, .int .i64 Nc] 24)) := ⟨_, rfl⟩
  have b0 : Below w.heap.size w W4 := by
    rw [hW4]
    exact (((((Below.refl _ _).alloc (Nat.le_refl _) _).alloc (by simp) _).alloc (by simp; omega) _).alloc (by simp; omega) _)
  have xa : BitsBox W4 (w.heap.size + 1) aa la ca Na := by
    rw [hW4]
    refine (Below.heap_alloc _ _ _ (by simp)).trans ((Below.heap_alloc _ _ _ (by simp)).trans ?_)
    have := World.alloc_heap_new (w.alloc (.cells #[.slice aa la ca, .int .i64 Na, .slice ab lb cb, .int .i64 Nb, .slice ac lc cc, .int .i64 Nc, .int .i64 at_, .int .u8 (wd : Int)] 47)) (.cells #[.slice aa la ca, .int .i64 Na] 24)
    rw [show (w.alloc (.cells #[.slice aa la ca, .int .i64 Na, .slice ab lb cb, .int .i64 Nb, .slice ac lc cc, .int .i64 Nc, .int .i64 at_, .int .u8 (wd : Int)] 47)).heap.size = w.heap.size + 1 from by simp] at this
    exact this
  have xb : BitsBox W4 (w.heap.size + 2) ab lb cb Nb := by
    rw [hW4]
    refine (Below.heap_alloc _ _ _ (by simp)).trans ?_
    have := World.alloc_heap_new ((w.alloc (.cells #[.slice aa la ca, .int .i64 Na, .slice ab lb cb, .int .i64 Nb, .slice ac lc cc, .int .i64 Nc, .int .i64 at_, .int .u8 (wd : Int)] 47)).alloc (.cells #[.slice aa la ca, .int .i64 Na] 24)) (.cells #[.slice ab lb cb, .int .i64 Nb] 24)
    rw [show ((w.alloc (.cells #[.slice aa la ca, .int .i64 Na, .slice ab lb cb, .int .i64 Nb, .slice ac lc cc, .int .i64 Nc, .int .i64 at_, .int .u8 (wd : Int)] 47)).alloc (.cells #[.slice aa la ca, .int .i64 Na] 24)).heap.size = w.heap.size + 2 from by simp] at this
    exact this
  have xc : BitsBox W4 (w.heap.size + 3) ac lc cc Nc := by
    rw [hW4]
    have := World.alloc_heap_new (((w.alloc (.cells #[.slice aa la ca, .int .i64 Na, .slice ab lb cb, .int .i64 Nb, .slice ac lc cc, .int .i64 Nc, .int .i64 at_, .int .u8 (wd : Int)] 47)).alloc (.cells #[.slice aa la ca, .int .i64 Na] 24)).alloc (.cells #[.slice ab lb cb, .int .i64 Nb] 24)) (.cells #[.slice ac lc cc, .int .i64 Nc] 24)
    rw [show (((w.alloc (.cells #[.slice aa la ca, .int .i64 Na, .slice ab lb cb, .int .i64 Nb, .slice ac lc cc, .int .i64 Nc, .int .i64 at_, .int .u8 (wd : Int)] 47)).alloc (.cells #[.slice aa la ca, .int .i64 Na] 24)).alloc (.cells #[.slice ab lb cb, .int .i64 Nb] 24)).heap.size = w.heap.size + 3 from by simp] at this
    exact this
  have ya := hya.mono b0
  have yb := hyb.mono b0
  have yc := hyc.mono b0
  go_enter Try.func5, Try.ntmps5
  go_wp2_with fail
  rw [← hW4]
  clear hW4
  refine (shown_any _).mono ?_
  rintro e ws ⟨rfl, bs1⟩
  have xa := xa.below bs1
  have xb := xb.below bs1
  have xc := xc.below bs1
  have ya := ya.mono bs1
  have yb := yb.mono bs1
  have yc := yc.mono bs1
  have Bel := below_then b0 bs1
  have xa_0 := xa.cell0
  have xa_1 := xa.cell1
  have xb_0 := xb.cell0
  have xb_1 := xb.cell1
  have xc_0 := xc.cell0
  have xc_1 := xc.cell1
  go_wp2_with fail
  refine (few_any _ aa la ca Na hsa).mono ?_
  rintro e wfa ⟨rfl, bfa⟩
  have xa := xa.below bfa
  have xb := xb.below bfa
  have xc := xc.below bfa
  have ya := ya.mono bfa
  have yb := yb.mono bfa
  have yc := yc.mono bfa
  have Bel := below_then Bel bfa
  have xa_0 := xa.cell0
  have xa_1 := xa.cell1
  have xb_0 := xb.cell0
  have xb_1 := xb.cell1
  have xc_0 := xc.cell0
  have xc_1 := xc.cell1
  rw [dfa]
  go_wp2_with fail
  refine (few_any _ ab lb cb Nb hsb).mono ?_
  rintro e wfb ⟨rfl, bfb⟩
  have xa := xa.below bfb
  have xb := xb.below bfb
  have xc := xc.below bfb
  have ya := ya.mono bfb
  have yb := yb.mono bfb
  have yc := yc.mono bfb
  have Bel := below_then Bel bfb
  have xa_0 := xa.cell0
  have xa_1 := xa.cell1
  have xb_0 := xb.cell0
  have xb_1 := xb.cell1
  have xc_0 := xc.cell0
  have xc_1 := xc.cell1
  rw [dfb]
  go_wp2_with fail
  refine (few_any _ ac lc cc Nc hsc).mono ?_
  rintro e wfc ⟨rfl, bfc⟩
  have xa := xa.below bfc
  have xb := xb.below bfc
  have xc := xc.below bfc
  have ya := ya.mono bfc
  have yb := yb.mono bfc
  have yc := yc.mono bfc
  have Bel := below_then Bel bfc
  have xa_0 := xa.cell0
  have xa_1 := xa.cell1
  have xb_0 := xb.cell0
  have xb_1 := xb.cell1
  have xc_0 := xc.cell0
  have xc_1 := xc.cell1
  rw [dfc]
  go_wp2_with fail
  refine (refright_any _ aa la ca pa Na hN1a hN2a (by omega) ya).mono ?_
  rintro e wra ⟨rfl, bra⟩
  have xa := xa.below bra
  have xb := xb.below bra
  have xc := xc.below bra
  have ya := ya.mono bra
  have yb := yb.mono bra
  have yc := yc.mono bra
  have Bel := below_then Bel bra
  have xa_0 := xa.cell0
  have xa_1 := xa.cell1
  have xb_0 := xb.cell0
  have xb_1 := xb.cell1
  have xc_0 := xc.cell0
  have xc_1 := xc.cell1
  rw [HRa.out]
  go_wp2
  go_ret
  exact ⟨rfl, Bel⟩
set_option maxHeartbeats 8000000 in
theorem bitsjoin_no4 (w : World) (aa : Option Addr) (la ca : Nat) (pa : List Nat) (Na : Int) (ab : Option Addr) (lb cb : Nat) (pb : List Nat) (Nb : Int) (ac : Option Addr) (lc cc : Nat) (pc : List Nat) (Nc : Int) (at_ : Int) (wd : Nat) (hwd : wd < 256) (hat1 : -9223372036854775808 ≤ at_) (hat2 : at_ ≤ 9223372036854775807) (hN1a : -9223372036854775808 ≤ Na) (hN2a : Na ≤ 9223372036854775807) (hya : BytesAt w aa la ca pa) (hN1b : -9223372036854775808 ≤ Nb) (hN2b : Nb ≤ 9223372036854775807) (hyb : BytesAt w ab lb cb pb) (hN1c : -9223372036854775808 ≤ Nc) (hN2c : Nc ≤ 9223372036854775807) (hyc : BytesAt w ac lc cc pc) (hfa : la ≤ 100) (hfb : lb ≤ 100) (hfc : lc ≤ 100) (hra : RightI pa Na) (hrb : ¬ RightI pb Nb) :
    Calls Try.prog 5 #[.agg #[.slice aa la ca, .int .i64 Na, .slice ab lb cb, .int .i64 Nb, .slice ac lc cc, .int .i64 Nc, .int .i64 at_, .int .u8 (wd : Int)]] w fun e w' => e = .returned (.bool true) ∧ Below w.heap.size w w' := by
  have hsa := hya.small
  have hsb := hyb.small
  have hsc := hyc.small
  have dfa : decide (la ≤ 100) = true := by simpa using hfa
  have dfb : decide (lb ≤ 100) = true := by simpa using hfb
  have dfc : decide (lc ≤ 100) = true := by simpa using hfc
  have dra : decide (RightI pa Na) = true := by simpa using hra
  have HRa := Lib.hid dra
  clear dra
  have drb : decide (RightI pb Nb) = false := by simpa using hrb
  have HRb := Lib.hid drb
  clear drb
  obtain ⟨W4, hW4⟩ : ∃ W4, W4 = ((((w.alloc (.cells #[.slice aa la ca, .int .i64 Na, .slice ab lb cb, .int .i64 Nb, .slice ac lc cc, .int .i64 Nc, .int .i64 at_, .int .u8 (wd : Int)] 47)).alloc (.cells #[.slice aa la ca, .int .i64 Na] 24)).alloc (.cells #[.slice ab lb cb, .int .i64 Nb] 24)).alloc (.cells #[.slice ac lc cc, .int .i64 Nc] 24)) := ⟨_, rfl⟩
  have b0 : Below w.heap.size w W4 := by
    rw [hW4]
    exact (((((Below.refl _ _).alloc (Nat.le_refl _) _).alloc (by simp) _).alloc (by simp; omega) _).alloc (by simp; omega) _)
  have xa : BitsBox W4 (w.heap.size + 1) aa la ca Na := by
    rw [hW4]
    refine (Below.heap_alloc _ _ _ (by simp)).trans ((Below.heap_alloc _ _ _ (by simp)).trans ?_)
    have := World.alloc_heap_new (w.alloc (.cells #[.slice aa la ca, .int .i64 Na, .slice ab lb cb, .int .i64 Nb, .slice ac lc cc, .int .i64 Nc, .int .i64 at_, .int .u8 (wd : Int)] 47)) (.cells #[.slice aa la ca, .int .i64 Na] 24)
    rw [show (w.alloc (.cells #[.slice aa la ca, .int .i64 Na, .slice ab lb cb, .int .i64 Nb, .slice ac lc cc, .int .i64 Nc, .int .i64 at_, .int .u8 (wd : Int)] 47)).heap.size = w.heap.size + 1 from by simp] at this
    exact this
  have xb : BitsBox W4 (w.heap.size + 2) ab lb cb Nb := by
    rw [hW4]
    refine (Below.heap_alloc _ _ _ (by simp)).trans ?_
    have := World.alloc_heap_new ((w.alloc (.cells #[.slice aa la ca, .int .i64 Na, .slice ab lb cb, .int .i64 Nb, .slice ac lc cc, .int .i64 Nc, .int .i64 at_, .int .u8 (wd : Int)] 47)).alloc (.cells #[.slice aa la ca, .int .i64 Na] 24)) (.cells #[.slice ab lb cb, .int .i64 Nb] 24)
    rw [show ((w.alloc (.cells #[.slice aa la ca, .int .i64 Na, .slice ab lb cb, .int .i64 Nb, .slice ac lc cc, .int .i64 Nc, .int .i64 at_, .int .u8 (wd : Int)] 47)).alloc (.cells #[.slice aa la ca, .int .i64 Na] 24)).heap.size = w.heap.size + 2 from by simp] at this
    exact this
  have xc : BitsBox W4 (w.heap.size + 3) ac lc cc Nc := by
    rw [hW4]
    have := World.alloc_heap_new (((w.alloc (.cells #[.slice aa la ca, .int .i64 Na, .slice ab lb cb, .int .i64 Nb, .slice ac lc cc, .int .i64 Nc, .int .i64 at_, .int .u8 (wd : Int)] 47)).alloc (.cells #[.slice aa la ca, .int .i64 Na] 24)).alloc (.cells #[.slice ab lb cb, .int .i64 Nb] 24)) (.cells #[.slice ac lc cc, .int .i64 Nc] 24)
    rw [show (((w.alloc (.cells #[.slice aa la ca, .int .i64 Na, .slice ab lb cb, .int .i64 Nb, .slice ac lc cc, .int .i64 Nc, .int .i64 at_, .int .u8 (wd : Int)] 47)).alloc (.cells #[.slice aa la ca, .int .i64 Na] 24)).alloc (.cells #[.slice ab lb cb, .int .i64 Nb] 24)).heap.size = w.heap.size + 3 from by simp] at this
    exact this
  have ya := hya.mono b0
  have yb := hyb.mono b0
  have yc := hyc.mono b0
  go_enter Try.func5, Try.ntmps5
  go_wp2_with fail
  rw [← hW4]
  clear hW4
  refine (shown_any _).mono ?_
  rintro e ws ⟨rfl, bs1⟩
  have xa := xa.below bs1
  have xb := xb.below bs1
  have xc := xc.below bs1
  have ya := ya.mono bs1
  have yb := yb.mono bs1
  have yc := yc.mono bs1
  have Bel := below_then b0 bs1
  have xa_0 := xa.cell0
  have xa_1 := xa.cell1
  have xb_0 := xb.cell0
  have xb_1 := xb.cell1
  have xc_0 := xc.cell0
  have xc_1 := xc.cell1
  go_wp2_with fail
  refine (few_any _ aa la ca Na hsa).mono ?_
  rintro e wfa ⟨rfl, bfa⟩
  have xa := xa.below bfa
  have xb := xb.below bfa
  have xc := xc.below bfa
  have ya := ya.mono bfa
  have yb := yb.mono bfa
  have yc := yc.mono bfa
  have Bel := below_then Bel bfa
  have xa_0 := xa.cell0
  have xa_1 := xa.cell1
  have xb_0 := xb.cell0
  have xb_1 := xb.cell1
  have xc_0 := xc.cell0
  have xc_1 := xc.cell1
  rw [dfa]
  go_wp2_with fail
  refine (few_any _ ab lb cb Nb hsb).mono ?_
  rintro e wfb ⟨rfl, bfb⟩
  have xa := xa.below bfb
  have xb := xb.below bfb
  have xc := xc.below bfb
  have ya := ya.mono bfb
  have yb := yb.mono bfb
  have yc := yc.mono bfb
  have Bel := below_then Bel bfb
  have xa_0 := xa.cell0
  have xa_1 := xa.cell1
  have xb_0 := xb.cell0
  have xb_1 := xb.cell1
  have xc_0 := xc.cell0
  have xc_1 := xc.cell1
  rw [dfb]
  go_wp2_with fail
  refine (few_any _ ac lc cc Nc hsc).mono ?_
  rintro e wfc ⟨rfl, bfc⟩
  have xa := xa.below bfc
  have xb := xb.below bfc
  have xc := xc.below bfc
  have ya := ya.mono bfc
  have yb := yb.mono bfc
  have yc := yc.mono bfc
  have Bel := below_then Bel bfc
  have xa_0 := xa.cell0
  have xa_1 := xa.cell1
  have xb_0 := xb.cell0
  have xb_1 := xb.cell1
  have xc_0 := xc.cell0
  have xc_1 := xc.cell1
  rw [dfc]
  go_wp2_with fail
  refine (refright_any _ aa la ca pa Na hN1a hN2a (by omega) ya).mono ?_
  rintro e wra ⟨rfl, bra⟩
  have xa := xa.below bra
  have xb := xb.below bra
  have xc := xc.below bra
  have ya := ya.mono bra
  have yb := yb.mono bra
  have yc := yc.mono bra
  have Bel := below_then Bel bra
  have xa_0 := xa.cell0
  have xa_1 := xa.cell1
  have xb_0 := xb.cell0
  have xb_1 := xb.cell1
  have xc_0 := xc.cell0
  have xc_1 := xc.cell1
  rw [HRa.out]
  go_wp2_with fail
  refine (refright_any _ ab lb cb pb Nb hN1b hN2b (by omega) yb).mono ?_
  rintro e wrb ⟨rfl, brb⟩
  have xa := xa.below brb
  have xb := xb.below brb
  have xc := xc.below brb
  have ya := ya.mono brb
  have yb := yb.mono brb
  have yc := yc.mono brb
  have Bel := below_then Bel brb
  have xa_0 := xa.cell0
  have xa_1 := xa.cell1
  have xb_0 := xb.cell0
  have xb_1 := xb.cell1
  have xc_0 := xc.cell0
  have xc_1 := xc.cell1
  rw [HRb.out]
  go_wp2
  go_ret
  exact ⟨rfl, Bel⟩
set_option maxHeartbeats 8000000 in
theorem bitsjoin_no5 (w : World) (aa : Option Addr) (la ca : Nat) (pa : List Nat) (Na : Int) (ab : Option Addr) (lb cb : Nat) (pb : List Nat) (Nb : Int) (ac : Option Addr) (lc cc : Nat) (pc : List Nat) (Nc : Int) (at_ : Int) (wd : Nat) (hwd : wd < 256) (hat1 : -9223372036854775808 ≤ at_) (hat2 : at_ ≤ 9223372036854775807) (hN1a : -9223372036854775808 ≤ Na) (hN2a : Na ≤ 9223372036854775807) (hya : BytesAt w aa la ca pa) (hN1b : -9223372036854775808 ≤ Nb) (hN2b : Nb ≤ 9223372036854775807) (hyb : BytesAt w ab lb cb pb) (hN1c : -9223372036854775808 ≤ Nc) (hN2c : Nc ≤ 9223372036854775807) (hyc : BytesAt w ac lc cc pc) (hfa : la ≤ 100) (hfb : lb ≤ 100) (hfc : lc ≤ 100) (hra : RightI pa Na) (hrb : RightI pb Nb) (hrc : ¬ RightI pc Nc) :
    Calls Try.prog 5 #[.agg #[.slice aa la ca, .int .i64 Na, .slice ab lb cb, .int .i64 Nb, .slice ac lc cc, .int .i64 Nc, .int .i64 at_, .int .u8 (wd : Int)]] w fun e w' => e = .returned (.bool true) ∧ Below w.heap.size w w' := by
  have hsa := hya.small
  have hsb := hyb.small
  have hsc := hyc.small
  have dfa : decide (la ≤ 100) = true := by simpa using hfa
  have dfb : decide (lb ≤ 100) = true := by simpa using hfb
  have dfc : decide (lc ≤ 100) = true := by simpa using hfc
  have dra : decide (RightI pa Na) = true := by simpa using hra
  have HRa := Lib.hid dra
  clear dra
  have drb : decide (RightI pb Nb) = true := by simpa using hrb
  have HRb := Lib.hid drb
  clear drb
  have drc : decide (RightI pc Nc) = false := by simpa using hrc
  have HRc := Lib.hid drc
  clear drc
  obtain ⟨W4, hW4⟩ : ∃ W4, W4 = ((((w.alloc (.cells #[.slice aa la ca, .int .i64 Na, .slice ab lb cb, .int .i64 Nb, .slice ac lc cc, .int .i64 Nc, .int .i64 at_, .int .u8 (wd : Int)] 47)).alloc (.cells #[.slice aa la ca, .int .i64 Na] 24)).alloc (.cells #[.slice ab lb cb, .int .i64 Nb] 24)).alloc (.cells #[.slice ac lc cc, .int .i64 Nc] 24)) := ⟨_, rfl⟩
  have b0 : Below w.heap.size w W4 := by
    rw [hW4]
    exact (((((Below.refl _ _).alloc (Nat.le_refl _) _).alloc (by simp) _).alloc (by simp; omega) _).alloc (by simp; omega) _)
  have xa : BitsBox W4 (w.heap.size + 1) aa la ca Na := by
    rw [hW4]
    refine (Below.heap_alloc _ _ _ (by simp)).trans ((Below.heap_alloc _ _ _ (by simp)).trans ?_)
    have := World.alloc_heap_new (w.alloc (.cells #[.slice aa la ca, .int .i64 Na, .slice ab lb cb, .int .i64 Nb, .slice ac lc cc, .int .i64 Nc, .int .i64 at_, .int .u8 (wd : Int)] 47)) (.cells #[.slice aa la ca, .int .i64 Na] 24)
    rw [show (w.alloc (.cells #[.slice aa la ca, .int .i64 Na, .slice ab lb cb, .int .i64 Nb, .slice ac lc cc, .int .i64 Nc, .int .i64 at_, .int .u8 (wd : Int)] 47)).heap.size = w.heap.size + 1 from by simp] at this
    exact this
  have xb : BitsBox W4 (w.heap.size + 2) ab lb cb Nb := by
    rw [hW4]
    refine (Below.heap_alloc _ _ _ (by simp)).trans ?_
    have := World.alloc_heap_new ((w.alloc (.cells #[.slice aa la ca, .int .i64 Na, .slice ab lb cb, .int .i64 Nb, .slice ac lc cc, .int .i64 Nc, .int .i64 at_, .int .u8 (wd : Int)] 47)).alloc (.cells #[.slice aa la ca, .int .i64 Na] 24)) (.cells #[.slice ab lb cb, .int .i64 Nb] 24)
    rw [show ((w.alloc (.cells #[.slice aa la ca, .int .i64 Na, .slice ab lb cb, .int .i64 Nb, .slice ac lc cc, .int .i64 Nc, .int .i64 at_, .int .u8 (wd : Int)] 47)).alloc (.cells #[.slice aa la ca, .int .i64 Na] 24)).heap.size = w.heap.size + 2 from by simp] at this
    exact this
  have xc : BitsBox W4 (w.heap.size + 3) ac lc cc Nc := by
    rw [hW4]
    have := World.alloc_heap_new (((w.alloc (.cells #[.slice aa la ca, .int .i64 Na, .slice ab lb cb, .int .i64 Nb, .slice ac lc cc, .int .i64 Nc, .int .i64 at_, .int .u8 (wd : Int)] 47)).alloc (.cells #[.slice aa la ca, .int .i64 Na] 24)).alloc (.cells #[.slice ab lb cb, .int .i64 Nb] 24)) (.cells #[.slice ac lc cc, .int .i64 Nc] 24)
    rw [show (((w.alloc (.cells #[.slice aa la ca, .int .i64 Na, .slice ab lb cb, .int .i64 Nb, .slice ac lc cc, .int .i64 Nc, .int .i64 at_, .int .u8 (wd : Int)] 47)).alloc (.cells #[.slice aa la ca, .int .i64 Na] 24)).alloc (.cells #[.slice ab lb cb, .int .i64 Nb] 24)).heap.size = w.heap.size + 3 from by simp] at this
    exact this
  have ya := hya.mono b0
  have yb := hyb.mono b0
  have yc := hyc.mono b0
  go_enter Try.func5, Try.ntmps5
  go_wp2_with fail
  rw [← hW4]
  clear hW4
  refine (shown_any _).mono ?_
  rintro e ws ⟨rfl, bs1⟩
  have xa := xa.below bs1
  have xb := xb.below bs1
  have xc := xc.below bs1
  have ya := ya.mono bs1
  have yb := yb.mono bs1
  have yc := yc.mono bs1
  have Bel := below_then b0 bs1
  have xa_0 := xa.cell0
  have xa_1 := xa.cell1
  have xb_0 := xb.cell0
  have xb_1 := xb.cell1
  have xc_0 := xc.cell0
  have xc_1 := xc.cell1
  go_wp2_with fail
  refine (few_any _ aa la ca Na hsa).mono ?_
  rintro e wfa ⟨rfl, bfa⟩
  have xa := xa.below bfa
  have xb := xb.below bfa
  have xc := xc.below bfa
  have ya := ya.mono bfa
  have yb := yb.mono bfa
  have yc := yc.mono bfa
  have Bel := below_then Bel bfa
  have xa_0 := xa.cell0
  have xa_1 := xa.cell1
  have xb_0 := xb.cell0
  have xb_1 := xb.cell1
  have xc_0 := xc.cell0
  have xc_1 := xc.cell1
  rw [dfa]
  go_wp2_with fail
  refine (few_any _ ab lb cb Nb hsb).mono ?_
  rintro e wfb ⟨rfl, bfb⟩
  have xa := xa.below bfb
  have xb := xb.below bfb
  have xc := xc.below bfb
  have ya := ya.mono bfb
  have yb := yb.mono bfb
  have yc := yc.mono bfb
  have Bel := below_then Bel bfb
  have xa_0 := xa.cell0
  have xa_1 := xa.cell1
  have xb_0 := xb.cell0
  have xb_1 := xb.cell1
  have xc_0 := xc.cell0
  have xc_1 := xc.cell1
  rw [dfb]
  go_wp2_with fail
  refine (few_any _ ac lc cc Nc hsc).mono ?_
  rintro e wfc ⟨rfl, bfc⟩
  have xa := xa.below bfc
  have xb := xb.below bfc
  have xc := xc.below bfc
  have ya := ya.mono bfc
  have yb := yb.mono bfc
  have yc := yc.mono bfc
  have Bel := below_then Bel bfc
  have xa_0 := xa.cell0
  have xa_1 := xa.cell1
  have xb_0 := xb.cell0
  have xb_1 := xb.cell1
  have xc_0 := xc.cell0
  have xc_1 := xc.cell1
  rw [dfc]
  go_wp2_with fail
  refine (refright_any _ aa la ca pa Na hN1a hN2a (by omega) ya).mono ?_
  rintro e wra ⟨rfl, bra⟩
  have xa := xa.below bra
  have xb := xb.below bra
  have xc := xc.below bra
  have ya := ya.mono bra
  have yb := yb.mono bra
  have yc := yc.mono bra
  have Bel := below_then Bel bra
  have xa_0 := xa.cell0
  have xa_1 := xa.cell1
  have xb_0 := xb.cell0
  have xb_1 := xb.cell1
  have xc_0 := xc.cell0
  have xc_1 := xc.cell1
  rw [HRa.out]
  go_wp2_with fail
  refine (refright_any _ ab lb cb pb Nb hN1b hN2b (by omega) yb).mono ?_
  rintro e wrb ⟨rfl, brb⟩
  have xa := xa.below brb
  have xb := xb.below brb
  have xc := xc.below brb
  have ya := ya.mono brb
  have yb := yb.mono brb
  have yc := yc.mono brb
  have Bel := below_then Bel brb
  have xa_0 := xa.cell0
  have xa_1 := xa.cell1
  have xb_0 := xb.cell0
  have xb_1 := xb.cell1
  have xc_0 := xc.cell0
  have xc_1 := xc.cell1
  rw [HRb.out]
  go_wp2_with fail
  refine (refright_any _ ac lc cc pc Nc hN1c hN2c (by omega) yc).mono ?_
  rintro e wrc ⟨rfl, brc⟩
  have xa := xa.below brc
  have xb := xb.below brc
  have xc := xc.below brc
  have ya := ya.mono brc
  have yb := yb.mono brc
  have yc := yc.mono brc
  have Bel := below_then Bel brc
  have xa_0 := xa.cell0
  have xa_1 := xa.cell1
  have xb_0 := xb.cell0
  have xb_1 := xb.cell1
  have xc_0 := xc.cell0
  have xc_1 := xc.cell1
  rw [HRc.out]
  go_wp2
  go_ret
  exact ⟨rfl, Bel⟩
end Go.Proofs.Yticbbldlhbooeaa
