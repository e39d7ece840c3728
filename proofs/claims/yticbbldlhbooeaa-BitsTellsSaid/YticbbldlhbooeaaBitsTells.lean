/- BitsTells returns true. -/
import Derived.Test.YticbbldlhbooeaaBitsHead
import Derived.Test.YticbbldlhbooeaaBitsWide
import Derived.Test.YticbbldlhbooeaaBitsRef6
import Derived.Test.YticbbldlhbooeaaBitsRef7
import Derived.Test.YticbbldlhbooeaaBitsBack
namespace Go.Proofs.Yticbbldlhbooeaa
open Go.RowKit
set_option linter.unusedVariables false

structure Pair (w0 w : World) (g1 : Nat) (a1 : Option Addr) (l1 c1 : Nat) (N1 : Int) (p1 : List Nat) (g2 : Nat) (a2 : Option Addr) (l2 c2 : Nat) (N2 : Int) (p2 : List Nat) : Prop where
  x1 : BitsBox w g1 a1 l1 c1 N1
  y1 : BytesAt w a1 l1 c1 p1
  x2 : BitsBox w g2 a2 l2 c2 N2
  y2 : BytesAt w a2 l2 c2 p2
  bel : Below w0.heap.size w0 w
theorem Pair.below {w0 w w' : World} {g1 : Nat} {a1 : Option Addr} {l1 c1 : Nat} {N1 : Int} {p1 : List Nat} {g2 : Nat} {a2 : Option Addr} {l2 c2 : Nat} {N2 : Int} {p2 : List Nat} (q : Pair w0 w g1 a1 l1 c1 N1 p1 g2 a2 l2 c2 N2 p2) (hb : Below w.heap.size w w') : Pair w0 w' g1 a1 l1 c1 N1 p1 g2 a2 l2 c2 N2 p2 :=
  ⟨q.x1.below hb, q.y1.mono hb, q.x2.below hb, q.y2.mono hb, below_then q.bel hb⟩
structure Four (w0 w : World) (g1 : Nat) (a1 : Option Addr) (l1 c1 : Nat) (N1 : Int) (p1 : List Nat) (g2 : Nat) (a2 : Option Addr) (l2 c2 : Nat) (N2 : Int) (p2 : List Nat) (g3 : Nat) (a3 : Option Addr) (l3 c3 : Nat) (N3 : Int) (p3 : List Nat) (g4 : Nat) (a4 : Option Addr) (l4 c4 : Nat) (N4 : Int) (p4 : List Nat) : Prop where
  x1 : BitsBox w g1 a1 l1 c1 N1
  y1 : BytesAt w a1 l1 c1 p1
  x2 : BitsBox w g2 a2 l2 c2 N2
  y2 : BytesAt w a2 l2 c2 p2
  x3 : BitsBox w g3 a3 l3 c3 N3
  y3 : BytesAt w a3 l3 c3 p3
  x4 : BitsBox w g4 a4 l4 c4 N4
  y4 : BytesAt w a4 l4 c4 p4
  bel : Below w0.heap.size w0 w
theorem Four.below {w0 w w' : World} {g1 : Nat} {a1 : Option Addr} {l1 c1 : Nat} {N1 : Int} {p1 : List Nat} {g2 : Nat} {a2 : Option Addr} {l2 c2 : Nat} {N2 : Int} {p2 : List Nat} {g3 : Nat} {a3 : Option Addr} {l3 c3 : Nat} {N3 : Int} {p3 : List Nat} {g4 : Nat} {a4 : Option Addr} {l4 c4 : Nat} {N4 : Int} {p4 : List Nat} (q : Four w0 w g1 a1 l1 c1 N1 p1 g2 a2 l2 c2 N2 p2 g3 a3 l3 c3 N3 p3 g4 a4 l4 c4 N4 p4) (hb : Below w.heap.size w w') : Four w0 w' g1 a1 l1 c1 N1 p1 g2 a2 l2 c2 N2 p2 g3 a3 l3 c3 N3 p3 g4 a4 l4 c4 N4 p4 :=
  ⟨q.x1.below hb, q.y1.mono hb, q.x2.below hb, q.y2.mono hb, q.x3.below hb, q.y3.mono hb, q.x4.below hb, q.y4.mono hb, below_then q.bel hb⟩
theorem refjoin_at (w : World) (a b : Option Addr) (len cap len' cap' : Nat) (bs cs : List Nat) (hbs : IsBits bs) (hcs : IsBits cs) (hsm : bs.length ≤ 137438953472) (hsm' : cs.length ≤ 137438953472) (hl : BytesAt w a len cap (pack bs)) (hl' : BytesAt w b len' cap' (pack cs)) (ds : List Nat) (hds : bs ++ cs = ds) (n m : Int) (hn : n = (bs.length : Int)) (hm : m = (cs.length : Int)) :
    Calls Try.prog 23 #[.agg #[.slice a len cap, .int .i64 n], .agg #[.slice b len' cap', .int .i64 m]] w (BitsOut1 ds w) := by
  subst hds
  exact refjoin_any w a b len cap len' cap' bs cs hbs hcs hsm hsm' hl hl' n m hn hm
theorem refright_is (w : World) (a : Option Addr) (len cap : Nat) (l : List Nat) (N : Int) (hN : -9223372036854775808 ≤ N) (hN' : N ≤ 9223372036854775807) (hlen : len ≤ 1099511627776) (hby : BytesAt w a len cap l) (r : Bool) (hr : decide (RightI l N) = r) :
    Calls Try.prog 12 #[.agg #[.slice a len cap, .int .i64 N]] w fun e w' => e = .returned (.bool r) ∧ Below w.heap.size w w' := by
  have h := refright_any w a len cap l N hN hN' hlen hby
  rw [hr] at h
  exact h
set_option maxRecDepth 10000 in
set_option maxHeartbeats 16000000 in
theorem bitstells_few0 (w : World) (aw : Option Addr) (lw cw : Nat) (pw : List Nat) (Nw : Int) (ao : Option Addr) (lo co : Nat) (po : List Nat) (No : Int) (n : Nat) (at_ wide : Int) (hn : n < 18446744073709551616) (hat1 : -9223372036854775808 ≤ at_) (hat2 : at_ ≤ 9223372036854775807) (hwd1 : -9223372036854775808 ≤ wide) (hwd2 : wide ≤ 9223372036854775807) (hN1w : -9223372036854775808 ≤ Nw) (hN2w : Nw ≤ 9223372036854775807) (hyw : BytesAt w aw lw cw pw) (hN1o : -9223372036854775808 ≤ No) (hN2o : No ≤ 9223372036854775807) (hyo : BytesAt w ao lo co po) (hfw : ¬ lw ≤ 100) :
    Calls Try.prog 3 #[.agg #[.slice aw lw cw, .int .i64 Nw, .slice ao lo co, .int .i64 No, .int .u64 (n : Int), .int .i64 at_, .int .i64 wide]] w fun e w' => e = .returned (.bool true) ∧ Below w.heap.size w w' := by
  have hsw := hyw.small
  have hso := hyo.small
  have dfw : decide (lw ≤ 100) = false := by simpa using hfw
  obtain ⟨W4, hW4⟩ : ∃ W4, W4 = (((w.alloc (.cells #[.slice aw lw cw, .int .i64 Nw, .slice ao lo co, .int .i64 No, .int .u64 (n : Int), .int .i64 at_, .int .i64 wide] 27)).alloc (.cells #[.slice aw lw cw, .int .i64 Nw] 24)).alloc (.cells #[.slice ao lo co, .int .i64 No] 24)) := ⟨_, rfl⟩
  have b0 : Below w.heap.size w W4 := by
    rw [hW4]
    exact ((((Below.refl _ _).alloc (Nat.le_refl _) _).alloc (by simp) _).alloc (by simp; omega) _)
  have xw : BitsBox W4 (w.heap.size + 1) aw lw cw Nw := by
    rw [hW4]
    refine (Below.heap_alloc _ _ _ (by simp)).trans ?_
    have := World.alloc_heap_new (w.alloc (.cells #[.slice aw lw cw, .int .i64 Nw, .slice ao lo co, .int .i64 No, .int .u64 (n : Int), .int .i64 at_, .int .i64 wide] 27)) (.cells #[.slice aw lw cw, .int .i64 Nw] 24)
    rw [show (w.alloc (.cells #[.slice aw lw cw, .int .i64 Nw, .slice ao lo co, .int .i64 No, .int .u64 (n : Int), .int .i64 at_, .int .i64 wide] 27)).heap.size = w.heap.size + 1 from by simp] at this
    exact this
  have xo : BitsBox W4 (w.heap.size + 2) ao lo co No := by
    rw [hW4]
    have := World.alloc_heap_new ((w.alloc (.cells #[.slice aw lw cw, .int .i64 Nw, .slice ao lo co, .int .i64 No, .int .u64 (n : Int), .int .i64 at_, .int .i64 wide] 27)).alloc (.cells #[.slice aw lw cw, .int .i64 Nw] 24)) (.cells #[.slice ao lo co, .int .i64 No] 24)
    rw [show ((w.alloc (.cells #[.slice aw lw cw, .int .i64 Nw, .slice ao lo co, .int .i64 No, .int .u64 (n : Int), .int .i64 at_, .int .i64 wide] 27)).alloc (.cells #[.slice aw lw cw, .int .i64 Nw] 24)).heap.size = w.heap.size + 2 from by simp] at this
    exact this
  have yw := hyw.mono b0
  have yo := hyo.mono b0
  go_enter Try.func3, Try.ntmps3
  go_wp2_with fail
  rw [← hW4]
  clear hW4
  refine (shown_any _).mono ?_
  rintro e0 ws ⟨rfl, bs1⟩
  have xw := xw.below bs1
  have xo := xo.below bs1
  have yw := yw.mono bs1
  have yo := yo.mono bs1
  have Bel := below_then b0 bs1
  have xw_0 := xw.cell0
  have xw_1 := xw.cell1
  have xo_0 := xo.cell0
  have xo_1 := xo.cell1
  go_wp2_with fail
  refine (few_any _ aw lw cw Nw hsw).mono ?_
  rintro e wfw ⟨rfl, bfw⟩
  have xw := xw.below bfw
  have xo := xo.below bfw
  have yw := yw.mono bfw
  have yo := yo.mono bfw
  have Bel := below_then Bel bfw
  have xw_0 := xw.cell0
  have xw_1 := xw.cell1
  have xo_0 := xo.cell0
  have xo_1 := xo.cell1
  rw [dfw]
  go_wp2
  go_ret
  exact ⟨rfl, Bel⟩
set_option maxRecDepth 10000 in
set_option maxHeartbeats 16000000 in
theorem bitstells_few1 (w : World) (aw : Option Addr) (lw cw : Nat) (pw : List Nat) (Nw : Int) (ao : Option Addr) (lo co : Nat) (po : List Nat) (No : Int) (n : Nat) (at_ wide : Int) (hn : n < 18446744073709551616) (hat1 : -9223372036854775808 ≤ at_) (hat2 : at_ ≤ 9223372036854775807) (hwd1 : -9223372036854775808 ≤ wide) (hwd2 : wide ≤ 9223372036854775807) (hN1w : -9223372036854775808 ≤ Nw) (hN2w : Nw ≤ 9223372036854775807) (hyw : BytesAt w aw lw cw pw) (hN1o : -9223372036854775808 ≤ No) (hN2o : No ≤ 9223372036854775807) (hyo : BytesAt w ao lo co po) (hfw : lw ≤ 100) (hfo : ¬ lo ≤ 100) :
    Calls Try.prog 3 #[.agg #[.slice aw lw cw, .int .i64 Nw, .slice ao lo co, .int .i64 No, .int .u64 (n : Int), .int .i64 at_, .int .i64 wide]] w fun e w' => e = .returned (.bool true) ∧ Below w.heap.size w w' := by
  have hsw := hyw.small
  have hso := hyo.small
  have dfw : decide (lw ≤ 100) = true := by simpa using hfw
  have dfo : decide (lo ≤ 100) = false := by simpa using hfo
  obtain ⟨W4, hW4⟩ : ∃ W4, W4 = (((w.alloc (.cells #[.slice aw lw cw, .int .i64 Nw, .slice ao lo co, .int .i64 No, .int .u64 (n : Int), .int .i64 at_, .int .i64 wide] 27)).alloc (.cells #[.slice aw lw cw, .int .i64 Nw] 24)).alloc (.cells #[.slice ao lo co, .int .i64 No] 24)) := ⟨_, rfl⟩
  have b0 : Below w.heap.size w W4 := by
    rw [hW4]
    exact ((((Below.refl _ _).alloc (Nat.le_refl _) _).alloc (by simp) _).alloc (by simp; omega) _)
  have xw : BitsBox W4 (w.heap.size + 1) aw lw cw Nw := by
    rw [hW4]
    refine (Below.heap_alloc _ _ _ (by simp)).trans ?_
    have := World.alloc_heap_new (w.alloc (.cells #[.slice aw lw cw, .int .i64 Nw, .slice ao lo co, .int .i64 No, .int .u64 (n : Int), .int .i64 at_, .int .i64 wide] 27)) (.cells #[.slice aw lw cw, .int .i64 Nw] 24)
    rw [show (w.alloc (.cells #[.slice aw lw cw, .int .i64 Nw, .slice ao lo co, .int .i64 No, .int .u64 (n : Int), .int .i64 at_, .int .i64 wide] 27)).heap.size = w.heap.size + 1 from by simp] at this
    exact this
  have xo : BitsBox W4 (w.heap.size + 2) ao lo co No := by
    rw [hW4]
    have := World.alloc_heap_new ((w.alloc (.cells #[.slice aw lw cw, .int .i64 Nw, .slice ao lo co, .int .i64 No, .int .u64 (n : Int), .int .i64 at_, .int .i64 wide] 27)).alloc (.cells #[.slice aw lw cw, .int .i64 Nw] 24)) (.cells #[.slice ao lo co, .int .i64 No] 24)
    rw [show ((w.alloc (.cells #[.slice aw lw cw, .int .i64 Nw, .slice ao lo co, .int .i64 No, .int .u64 (n : Int), .int .i64 at_, .int .i64 wide] 27)).alloc (.cells #[.slice aw lw cw, .int .i64 Nw] 24)).heap.size = w.heap.size + 2 from by simp] at this
    exact this
  have yw := hyw.mono b0
  have yo := hyo.mono b0
  go_enter Try.func3, Try.ntmps3
  go_wp2_with fail
  rw [← hW4]
  clear hW4
  refine (shown_any _).mono ?_
  rintro e0 ws ⟨rfl, bs1⟩
  have xw := xw.below bs1
  have xo := xo.below bs1
  have yw := yw.mono bs1
  have yo := yo.mono bs1
  have Bel := below_then b0 bs1
  have xw_0 := xw.cell0
  have xw_1 := xw.cell1
  have xo_0 := xo.cell0
  have xo_1 := xo.cell1
  go_wp2_with fail
  refine (few_any _ aw lw cw Nw hsw).mono ?_
  rintro e wfw ⟨rfl, bfw⟩
  have xw := xw.below bfw
  have xo := xo.below bfw
  have yw := yw.mono bfw
  have yo := yo.mono bfw
  have Bel := below_then Bel bfw
  have xw_0 := xw.cell0
  have xw_1 := xw.cell1
  have xo_0 := xo.cell0
  have xo_1 := xo.cell1
  rw [dfw]
  go_wp2_with fail
  refine (few_any _ ao lo co No hso).mono ?_
  rintro e wfo ⟨rfl, bfo⟩
  have xw := xw.below bfo
  have xo := xo.below bfo
  have yw := yw.mono bfo
  have yo := yo.mono bfo
  have Bel := below_then Bel bfo
  have xw_0 := xw.cell0
  have xw_1 := xw.cell1
  have xo_0 := xo.cell0
  have xo_1 := xo.cell1
  rw [dfo]
  go_wp2
  go_ret
  exact ⟨rfl, Bel⟩
set_option maxRecDepth 10000 in
set_option maxHeartbeats 16000000 in
theorem bitstells_wrong (w : World) (aw : Option Addr) (lw cw : Nat) (pw : List Nat) (Nw : Int) (ao : Option Addr) (lo co : Nat) (po : List Nat) (No : Int) (n : Nat) (at_ wide : Int) (hn : n < 18446744073709551616) (hat1 : -9223372036854775808 ≤ at_) (hat2 : at_ ≤ 9223372036854775807) (hwd1 : -9223372036854775808 ≤ wide) (hwd2 : wide ≤ 9223372036854775807) (hN1w : -9223372036854775808 ≤ Nw) (hN2w : Nw ≤ 9223372036854775807) (hyw : BytesAt w aw lw cw pw) (hN1o : -9223372036854775808 ≤ No) (hN2o : No ≤ 9223372036854775807) (hyo : BytesAt w ao lo co po) (hfw : lw ≤ 100) (hfo : lo ≤ 100) (hrw : ¬ RightI pw Nw) :
    Calls Try.prog 3 #[.agg #[.slice aw lw cw, .int .i64 Nw, .slice ao lo co, .int .i64 No, .int .u64 (n : Int), .int .i64 at_, .int .i64 wide]] w fun e w' => e = .returned (.bool true) ∧ Below w.heap.size w w' := by
  have hsw := hyw.small
  have hso := hyo.small
  have dfw : decide (lw ≤ 100) = true := by simpa using hfw
  have dfo : decide (lo ≤ 100) = true := by simpa using hfo
  have drw : decide (RightI pw Nw) = false := by simpa using hrw
  have HRw := Lib.hid drw
  clear drw
  obtain ⟨D, hD⟩ : ∃ D, decide (Nw = No ∧ pw = po) = D := ⟨_, rfl⟩
  have HD := Lib.hid hD
  obtain ⟨B, hB⟩ : ∃ B, Lib.bitLen n = B := ⟨_, rfl⟩
  have HB := Lib.hid hB
  clear hD hB
  obtain ⟨W4, hW4⟩ : ∃ W4, W4 = (((w.alloc (.cells #[.slice aw lw cw, .int .i64 Nw, .slice ao lo co, .int .i64 No, .int .u64 (n : Int), .int .i64 at_, .int .i64 wide] 27)).alloc (.cells #[.slice aw lw cw, .int .i64 Nw] 24)).alloc (.cells #[.slice ao lo co, .int .i64 No] 24)) := ⟨_, rfl⟩
  have b0 : Below w.heap.size w W4 := by
    rw [hW4]
    exact ((((Below.refl _ _).alloc (Nat.le_refl _) _).alloc (by simp) _).alloc (by simp; omega) _)
  have xw : BitsBox W4 (w.heap.size + 1) aw lw cw Nw := by
    rw [hW4]
    refine (Below.heap_alloc _ _ _ (by simp)).trans ?_
    have := World.alloc_heap_new (w.alloc (.cells #[.slice aw lw cw, .int .i64 Nw, .slice ao lo co, .int .i64 No, .int .u64 (n : Int), .int .i64 at_, .int .i64 wide] 27)) (.cells #[.slice aw lw cw, .int .i64 Nw] 24)
    rw [show (w.alloc (.cells #[.slice aw lw cw, .int .i64 Nw, .slice ao lo co, .int .i64 No, .int .u64 (n : Int), .int .i64 at_, .int .i64 wide] 27)).heap.size = w.heap.size + 1 from by simp] at this
    exact this
  have xo : BitsBox W4 (w.heap.size + 2) ao lo co No := by
    rw [hW4]
    have := World.alloc_heap_new ((w.alloc (.cells #[.slice aw lw cw, .int .i64 Nw, .slice ao lo co, .int .i64 No, .int .u64 (n : Int), .int .i64 at_, .int .i64 wide] 27)).alloc (.cells #[.slice aw lw cw, .int .i64 Nw] 24)) (.cells #[.slice ao lo co, .int .i64 No] 24)
    rw [show ((w.alloc (.cells #[.slice aw lw cw, .int .i64 Nw, .slice ao lo co, .int .i64 No, .int .u64 (n : Int), .int .i64 at_, .int .i64 wide] 27)).alloc (.cells #[.slice aw lw cw, .int .i64 Nw] 24)).heap.size = w.heap.size + 2 from by simp] at this
    exact this
  have yw := hyw.mono b0
  have yo := hyo.mono b0
  go_enter Try.func3, Try.ntmps3
  go_wp2_with fail
  rw [← hW4]
  clear hW4
  refine (shown_any _).mono ?_
  rintro e0 ws ⟨rfl, bs1⟩
  have xw := xw.below bs1
  have xo := xo.below bs1
  have yw := yw.mono bs1
  have yo := yo.mono bs1
  have Bel := below_then b0 bs1
  have xw_0 := xw.cell0
  have xw_1 := xw.cell1
  have xo_0 := xo.cell0
  have xo_1 := xo.cell1
  go_wp2_with fail
  refine (few_any _ aw lw cw Nw hsw).mono ?_
  rintro e wfw ⟨rfl, bfw⟩
  have xw := xw.below bfw
  have xo := xo.below bfw
  have yw := yw.mono bfw
  have yo := yo.mono bfw
  have Bel := below_then Bel bfw
  have xw_0 := xw.cell0
  have xw_1 := xw.cell1
  have xo_0 := xo.cell0
  have xo_1 := xo.cell1
  rw [dfw]
  go_wp2_with fail
  refine (few_any _ ao lo co No hso).mono ?_
  rintro e wfo ⟨rfl, bfo⟩
  have xw := xw.below bfo
  have xo := xo.below bfo
  have yw := yw.mono bfo
  have yo := yo.mono bfo
  have Bel := below_then Bel bfo
  have xw_0 := xw.cell0
  have xw_1 := xw.cell1
  have xo_0 := xo.cell0
  have xo_1 := xo.cell1
  rw [dfo]
  go_wp2_with fail
  refine (refright_any _ aw lw cw pw Nw hN1w hN2w (by omega) yw).mono ?_
  rintro e wr ⟨rfl, br⟩
  have xw := xw.below br
  have xo := xo.below br
  have yw := yw.mono br
  have yo := yo.mono br
  have Bel := below_then Bel br
  have xw_0 := xw.cell0
  have xw_1 := xw.cell1
  have xo_0 := xo.cell0
  have xo_1 := xo.cell1
  rw [HRw.out]
  have J0 : Pair w wr.drew (w.heap.size + 1) aw lw cw Nw pw (w.heap.size + 2) ao lo co No po := ⟨xw.below (Below.refl _ _).drew, yw.mono (Below.refl _ _).drew, xo.below (Below.refl _ _).drew, yo.mono (Below.refl _ _).drew, Bel.drew⟩
  have q0 := J0.x1.cell0; have q1 := J0.x1.cell1; have q2 := J0.x2.cell0; have q3 := J0.x2.cell1
  go_wp2
  go_region_held3 (fun w' => Pair w w' (w.heap.size + 1) aw lw cw Nw pw (w.heap.size + 2) ao lo co No po ∧ w'.cell? ⟨w.heap.size + 1, 0, none⟩ = some (.slice aw lw cw) ∧ w'.cell? ⟨w.heap.size + 1, 1, none⟩ = some (.int .i64 Nw) ∧ w'.cell? ⟨w.heap.size + 2, 0, none⟩ = some (.slice ao lo co) ∧ w'.cell? ⟨w.heap.size + 2, 1, none⟩ = some (.int .i64 No))
    (first | exact ⟨J0, q0, q1, q2, q3⟩ | exact ⟨by assumption, z0, z1, z2, z3⟩)
    (first | (go_at_call 13; refine (right_any _ aw lw cw pw Nw hN1w hN2w (by omega) J0.y1).mono ?_; rintro e0 w1 ⟨rfl, b1⟩; rw [HRw.out]; have J1 := J0.below b1; have z0 := J1.x1.cell0; have z1 := J1.x1.cell1; have z2 := J1.x2.cell0; have z3 := J1.x2.cell1) | (go_at_call 14; refine (same_any _ aw ao lw cw lo co Nw No pw po J1.y1 J1.y2).mono ?_; rintro e0 w2 ⟨rfl, b2⟩; rw [HD.out]; have J2 := J1.below b2; have z0 := J2.x1.cell0; have z1 := J2.x1.cell1; have z2 := J2.x2.cell0; have z3 := J2.x2.cell1) | (go_at_call 15; refine (refsame_any _ aw ao lw cw lo co Nw No pw po J2.y1 J2.y2).mono ?_; rintro e0 w3 ⟨rfl, b3⟩; rw [HD.out]; have J3 := J2.below b3; have z0 := J3.x1.cell0; have z1 := J3.x1.cell1; have z2 := J3.x2.cell0; have z3 := J3.x2.cell1) | (go_at_call 16; refine (wide_any _ n hn).mono ?_; rintro e0 w4 ⟨rfl, rfl⟩; rw [HB.out]) | (go_at_call 17; refine (refwide_any _ n hn).mono ?_; rintro e0 w5 ⟨rfl, rfl⟩; rw [HB.out]))
  go_wp2
  go_ret
  exact ⟨rfl, J3.bel⟩
set_option maxRecDepth 10000 in
set_option maxHeartbeats 16000000 in
theorem bitstells_half (w : World) (aw : Option Addr) (lw cw : Nat) (pw : List Nat) (Nw : Int) (ao : Option Addr) (lo co : Nat) (po : List Nat) (No : Int) (n : Nat) (at_ wide : Int) (hn : n < 18446744073709551616) (hat1 : -9223372036854775808 ≤ at_) (hat2 : at_ ≤ 9223372036854775807) (hwd1 : -9223372036854775808 ≤ wide) (hwd2 : wide ≤ 9223372036854775807) (hN1w : -9223372036854775808 ≤ Nw) (hN2w : Nw ≤ 9223372036854775807) (hyw : BytesAt w aw lw cw pw) (hN1o : -9223372036854775808 ≤ No) (hN2o : No ≤ 9223372036854775807) (hyo : BytesAt w ao lo co po) (hfw : lw ≤ 100) (hfo : lo ≤ 100) (hrw : RightI pw Nw) (hro : ¬ RightI po No) (dW : List Nat) (hbw : IsBits dW) (hpw : pw = pack dW) (hlw : dW.length ≤ 1000) (hnw : Nw = (dW.length : Int)) (dP : List Nat) (e v : Nat) (c e' : Int) (h1 : putS dW n wide = (dP, e')) (h2 : takeS dW at_ wide = (v, c)) :
    Calls Try.prog 3 #[.agg #[.slice aw lw cw, .int .i64 Nw, .slice ao lo co, .int .i64 No, .int .u64 (n : Int), .int .i64 at_, .int .i64 wide]] w fun e w' => e = .returned (.bool true) ∧ Below w.heap.size w w' := by
  have hsw := hyw.small
  have hso := hyo.small
  have dfw : decide (lw ≤ 100) = true := by simpa using hfw
  have dfo : decide (lo ≤ 100) = true := by simpa using hfo
  have drw : decide (RightI pw Nw) = true := by simpa using hrw
  have HRw := Lib.hid drw
  clear drw
  obtain ⟨D, hD⟩ : ∃ D, decide (Nw = No ∧ pw = po) = D := ⟨_, rfl⟩
  have HD := Lib.hid hD
  obtain ⟨B, hB⟩ : ∃ B, Lib.bitLen n = B := ⟨_, rfl⟩
  have HB := Lib.hid hB
  clear hD hB
  have dro : decide (RightI po No) = false := by simpa using hro
  have HRo := Lib.hid dro
  clear dro
  have HPw := Lib.hid hpw
  have HNw := Lib.hid hnw
  have HP1 := Lib.hid h1
  have HT1 := Lib.hid h2
  clear hpw hnw h1 h2
  obtain ⟨W4, hW4⟩ : ∃ W4, W4 = (((w.alloc (.cells #[.slice aw lw cw, .int .i64 Nw, .slice ao lo co, .int .i64 No, .int .u64 (n : Int), .int .i64 at_, .int .i64 wide] 27)).alloc (.cells #[.slice aw lw cw, .int .i64 Nw] 24)).alloc (.cells #[.slice ao lo co, .int .i64 No] 24)) := ⟨_, rfl⟩
  have b0 : Below w.heap.size w W4 := by
    rw [hW4]
    exact ((((Below.refl _ _).alloc (Nat.le_refl _) _).alloc (by simp) _).alloc (by simp; omega) _)
  have xw : BitsBox W4 (w.heap.size + 1) aw lw cw Nw := by
    rw [hW4]
    refine (Below.heap_alloc _ _ _ (by simp)).trans ?_
    have := World.alloc_heap_new (w.alloc (.cells #[.slice aw lw cw, .int .i64 Nw, .slice ao lo co, .int .i64 No, .int .u64 (n : Int), .int .i64 at_, .int .i64 wide] 27)) (.cells #[.slice aw lw cw, .int .i64 Nw] 24)
    rw [show (w.alloc (.cells #[.slice aw lw cw, .int .i64 Nw, .slice ao lo co, .int .i64 No, .int .u64 (n : Int), .int .i64 at_, .int .i64 wide] 27)).heap.size = w.heap.size + 1 from by simp] at this
    exact this
  have xo : BitsBox W4 (w.heap.size + 2) ao lo co No := by
    rw [hW4]
    have := World.alloc_heap_new ((w.alloc (.cells #[.slice aw lw cw, .int .i64 Nw, .slice ao lo co, .int .i64 No, .int .u64 (n : Int), .int .i64 at_, .int .i64 wide] 27)).alloc (.cells #[.slice aw lw cw, .int .i64 Nw] 24)) (.cells #[.slice ao lo co, .int .i64 No] 24)
    rw [show ((w.alloc (.cells #[.slice aw lw cw, .int .i64 Nw, .slice ao lo co, .int .i64 No, .int .u64 (n : Int), .int .i64 at_, .int .i64 wide] 27)).alloc (.cells #[.slice aw lw cw, .int .i64 Nw] 24)).heap.size = w.heap.size + 2 from by simp] at this
    exact this
  have yw := hyw.mono b0
  have yo := hyo.mono b0
  go_enter Try.func3, Try.ntmps3
  go_wp2_with fail
  rw [← hW4]
  clear hW4
  refine (shown_any _).mono ?_
  rintro e0 ws ⟨rfl, bs1⟩
  have xw := xw.below bs1
  have xo := xo.below bs1
  have yw := yw.mono bs1
  have yo := yo.mono bs1
  have Bel := below_then b0 bs1
  have xw_0 := xw.cell0
  have xw_1 := xw.cell1
  have xo_0 := xo.cell0
  have xo_1 := xo.cell1
  go_wp2_with fail
  refine (few_any _ aw lw cw Nw hsw).mono ?_
  rintro e wfw ⟨rfl, bfw⟩
  have xw := xw.below bfw
  have xo := xo.below bfw
  have yw := yw.mono bfw
  have yo := yo.mono bfw
  have Bel := below_then Bel bfw
  have xw_0 := xw.cell0
  have xw_1 := xw.cell1
  have xo_0 := xo.cell0
  have xo_1 := xo.cell1
  rw [dfw]
  go_wp2_with fail
  refine (few_any _ ao lo co No hso).mono ?_
  rintro e wfo ⟨rfl, bfo⟩
  have xw := xw.below bfo
  have xo := xo.below bfo
  have yw := yw.mono bfo
  have yo := yo.mono bfo
  have Bel := below_then Bel bfo
  have xw_0 := xw.cell0
  have xw_1 := xw.cell1
  have xo_0 := xo.cell0
  have xo_1 := xo.cell1
  rw [dfo]
  go_wp2_with fail
  refine (refright_any _ aw lw cw pw Nw hN1w hN2w (by omega) yw).mono ?_
  rintro e wr ⟨rfl, br⟩
  have xw := xw.below br
  have xo := xo.below br
  have yw := yw.mono br
  have yo := yo.mono br
  have Bel := below_then Bel br
  have xw_0 := xw.cell0
  have xw_1 := xw.cell1
  have xo_0 := xo.cell0
  have xo_1 := xo.cell1
  rw [HRw.out]
  have J0 : Pair w wr.drew (w.heap.size + 1) aw lw cw Nw pw (w.heap.size + 2) ao lo co No po := ⟨xw.below (Below.refl _ _).drew, yw.mono (Below.refl _ _).drew, xo.below (Below.refl _ _).drew, yo.mono (Below.refl _ _).drew, Bel.drew⟩
  have q0 := J0.x1.cell0; have q1 := J0.x1.cell1; have q2 := J0.x2.cell0; have q3 := J0.x2.cell1
  go_wp2
  go_region_held3 (fun w' => Pair w w' (w.heap.size + 1) aw lw cw Nw pw (w.heap.size + 2) ao lo co No po ∧ w'.cell? ⟨w.heap.size + 1, 0, none⟩ = some (.slice aw lw cw) ∧ w'.cell? ⟨w.heap.size + 1, 1, none⟩ = some (.int .i64 Nw) ∧ w'.cell? ⟨w.heap.size + 2, 0, none⟩ = some (.slice ao lo co) ∧ w'.cell? ⟨w.heap.size + 2, 1, none⟩ = some (.int .i64 No))
    (first | exact ⟨J0, q0, q1, q2, q3⟩ | exact ⟨by assumption, z0, z1, z2, z3⟩)
    (first | (go_at_call 13; refine (right_any _ aw lw cw pw Nw hN1w hN2w (by omega) J0.y1).mono ?_; rintro e0 w1 ⟨rfl, b1⟩; rw [HRw.out]; have J1 := J0.below b1; have z0 := J1.x1.cell0; have z1 := J1.x1.cell1; have z2 := J1.x2.cell0; have z3 := J1.x2.cell1) | (go_at_call 14; refine (same_any _ aw ao lw cw lo co Nw No pw po J1.y1 J1.y2).mono ?_; rintro e0 w2 ⟨rfl, b2⟩; rw [HD.out]; have J2 := J1.below b2; have z0 := J2.x1.cell0; have z1 := J2.x1.cell1; have z2 := J2.x2.cell0; have z3 := J2.x2.cell1) | (go_at_call 15; refine (refsame_any _ aw ao lw cw lo co Nw No pw po J2.y1 J2.y2).mono ?_; rintro e0 w3 ⟨rfl, b3⟩; rw [HD.out]; have J3 := J2.below b3; have z0 := J3.x1.cell0; have z1 := J3.x1.cell1; have z2 := J3.x2.cell0; have z3 := J3.x2.cell1) | (go_at_call 16; refine (wide_any _ n hn).mono ?_; rintro e0 w4 ⟨rfl, rfl⟩; rw [HB.out]) | (go_at_call 17; refine (refwide_any _ n hn).mono ?_; rintro e0 w5 ⟨rfl, rfl⟩; rw [HB.out]))
  have xw := J3.x1
  have xo := J3.x2
  have yw := J3.y1
  have yo := J3.y2
  have Bel := J3.bel
  have xw_0 := xw.cell0
  have xw_1 := xw.cell1
  have xo_0 := xo.cell0
  have xo_1 := xo.cell1
  rw [HPw.out] at yw
  go_wp2_with fail
  refine (put_any _ aw lw cw dW hbw (by omega) n hn wide yw _ _ HP1.out _ HNw.out).mono ?_
  rintro e w6 ⟨a6, l6, c6, rfl, y6, b6⟩
  have xw := xw.below b6
  have xo := xo.below b6
  have yw := yw.mono b6
  have yo := yo.mono b6
  have Bel := below_then Bel b6
  have x6 : BitsBox (w6.alloc (.cells #[.slice a6 l6 c6, .int .i64 (dP.length : Int)] 24)) w6.heap.size a6 l6 c6 (dP.length : Int) := World.alloc_heap_new _ _
  have xw := xw.below ((Below.refl w6.heap.size w6).alloc (Nat.le_refl _) (.cells #[.slice a6 l6 c6, .int .i64 (dP.length : Int)] 24))
  have xo := xo.below ((Below.refl w6.heap.size w6).alloc (Nat.le_refl _) (.cells #[.slice a6 l6 c6, .int .i64 (dP.length : Int)] 24))
  have yw := yw.mono ((Below.refl w6.heap.size w6).alloc (Nat.le_refl _) (.cells #[.slice a6 l6 c6, .int .i64 (dP.length : Int)] 24))
  have yo := yo.mono ((Below.refl w6.heap.size w6).alloc (Nat.le_refl _) (.cells #[.slice a6 l6 c6, .int .i64 (dP.length : Int)] 24))
  have y6 := y6.mono ((Below.refl w6.heap.size w6).alloc (Nat.le_refl _) (.cells #[.slice a6 l6 c6, .int .i64 (dP.length : Int)] 24))
  have Bel := below_new Bel (.cells #[.slice a6 l6 c6, .int .i64 (dP.length : Int)] 24)
  have xw_0 := xw.cell0
  have xw_1 := xw.cell1
  have xo_0 := xo.cell0
  have xo_1 := xo.cell1
  have x6_0 := x6.cell0
  have x6_1 := x6.cell1
  go_wp2_with fail
  refine (refput_any _ aw lw cw dW hbw (by omega) n hn wide hwd1 hwd2 yw _ _ HP1.out _ HNw.out).mono ?_
  rintro e w7 ⟨a7, l7, c7, rfl, y7, b7⟩
  have xw := xw.below b7
  have xo := xo.below b7
  have x6 := x6.below b7
  have yw := yw.mono b7
  have yo := yo.mono b7
  have y6 := y6.mono b7
  have Bel := below_then Bel b7
  have x7 : BitsBox (w7.alloc (.cells #[.slice a7 l7 c7, .int .i64 (dP.length : Int)] 24)) w7.heap.size a7 l7 c7 (dP.length : Int) := World.alloc_heap_new _ _
  have xw := xw.below ((Below.refl w7.heap.size w7).alloc (Nat.le_refl _) (.cells #[.slice a7 l7 c7, .int .i64 (dP.length : Int)] 24))
  have xo := xo.below ((Below.refl w7.heap.size w7).alloc (Nat.le_refl _) (.cells #[.slice a7 l7 c7, .int .i64 (dP.length : Int)] 24))
  have x6 := x6.below ((Below.refl w7.heap.size w7).alloc (Nat.le_refl _) (.cells #[.slice a7 l7 c7, .int .i64 (dP.length : Int)] 24))
  have yw := yw.mono ((Below.refl w7.heap.size w7).alloc (Nat.le_refl _) (.cells #[.slice a7 l7 c7, .int .i64 (dP.length : Int)] 24))
  have yo := yo.mono ((Below.refl w7.heap.size w7).alloc (Nat.le_refl _) (.cells #[.slice a7 l7 c7, .int .i64 (dP.length : Int)] 24))
  have y6 := y6.mono ((Below.refl w7.heap.size w7).alloc (Nat.le_refl _) (.cells #[.slice a7 l7 c7, .int .i64 (dP.length : Int)] 24))
  have y7 := y7.mono ((Below.refl w7.heap.size w7).alloc (Nat.le_refl _) (.cells #[.slice a7 l7 c7, .int .i64 (dP.length : Int)] 24))
  have Bel := below_new Bel (.cells #[.slice a7 l7 c7, .int .i64 (dP.length : Int)] 24)
  have xw_0 := xw.cell0
  have xw_1 := xw.cell1
  have xo_0 := xo.cell0
  have xo_1 := xo.cell1
  have x6_0 := x6.cell0
  have x6_1 := x6.cell1
  have x7_0 := x7.cell0
  have x7_1 := x7.cell1
  go_wp2_with fail
  refine (take_any _ aw lw cw dW hbw (by omega) at_ wide yw _ _ HT1.out _ HNw.out).mono ?_
  rintro e wt ⟨rfl, bt⟩
  have xw := xw.below bt
  have xo := xo.below bt
  have x6 := x6.below bt
  have x7 := x7.below bt
  have yw := yw.mono bt
  have yo := yo.mono bt
  have y6 := y6.mono bt
  have y7 := y7.mono bt
  have Bel := below_then Bel bt
  have xw_0 := xw.cell0
  have xw_1 := xw.cell1
  have xo_0 := xo.cell0
  have xo_1 := xo.cell1
  have x6_0 := x6.cell0
  have x6_1 := x6.cell1
  have x7_0 := x7.cell0
  have x7_1 := x7.cell1
  go_wp2_with fail
  refine (reftake_any _ aw lw cw dW hbw (by omega) at_ wide hwd1 hwd2 hat1 hat2 yw _ _ HT1.out _ HNw.out).mono ?_
  rintro e wu ⟨rfl, bu⟩
  have xw := xw.below bu
  have xo := xo.below bu
  have x6 := x6.below bu
  have x7 := x7.below bu
  have yw := yw.mono bu
  have yo := yo.mono bu
  have y6 := y6.mono bu
  have y7 := y7.mono bu
  have Bel := below_then Bel bu
  have xw_0 := xw.cell0
  have xw_1 := xw.cell1
  have xo_0 := xo.cell0
  have xo_1 := xo.cell1
  have x6_0 := x6.cell0
  have x6_1 := x6.cell1
  have x7_0 := x7.cell0
  have x7_1 := x7.cell1
  have lt_xw := (Array.getElem?_eq_some_iff.1 xw).1
  have c_xw_0 := fun x : Later wu.heap.size wu => (x.cell _ 0 lt_xw).trans xw_0
  have c_xw_1 := fun x : Later wu.heap.size wu => (x.cell _ 1 lt_xw).trans xw_1
  have lt_xo := (Array.getElem?_eq_some_iff.1 xo).1
  have c_xo_0 := fun x : Later wu.heap.size wu => (x.cell _ 0 lt_xo).trans xo_0
  have c_xo_1 := fun x : Later wu.heap.size wu => (x.cell _ 1 lt_xo).trans xo_1
  have lt_x6 := (Array.getElem?_eq_some_iff.1 x6).1
  have c_x6_0 := fun x : Later wu.heap.size wu => (x.cell _ 0 lt_x6).trans x6_0
  have c_x6_1 := fun x : Later wu.heap.size wu => (x.cell _ 1 lt_x6).trans x6_1
  have lt_x7 := (Array.getElem?_eq_some_iff.1 x7).1
  have c_x7_0 := fun x : Later wu.heap.size wu => (x.cell _ 0 lt_x7).trans x7_0
  have c_x7_1 := fun x : Later wu.heap.size wu => (x.cell _ 1 lt_x7).trans x7_1
  go_wp2
  refine wp_region_later wu.heap.size wu (by kernel_rfl) (by kernel_rfl) (Below.refl _ _) ?_
  repeat (go_big_quiet_step ((first | (go_at_call 15; refine Calls.later0 (refsame_same (y6.mono (Later.below _)) (y7.mono (Later.below _)))) | (go_at_call 12; refine Calls.later0 (refright_is _ ao lo co po No hN1o hN2o (by omega) (yo.mono (Later.below _)) _ HRo.out)))))
  refine wpQuiet_nil ?_
  intro _ hx
  obtain ⟨x, rfl⟩ := hx
  have hbx := x.below
  go_wp2
  go_ret
  exact ⟨rfl, below_then Bel hbx⟩
set_option maxRecDepth 10000 in
set_option maxHeartbeats 16000000 in
theorem bitstells_yes (w : World) (aw : Option Addr) (lw cw : Nat) (pw : List Nat) (Nw : Int) (ao : Option Addr) (lo co : Nat) (po : List Nat) (No : Int) (n : Nat) (at_ wide : Int) (hn : n < 18446744073709551616) (hat1 : -9223372036854775808 ≤ at_) (hat2 : at_ ≤ 9223372036854775807) (hwd1 : -9223372036854775808 ≤ wide) (hwd2 : wide ≤ 9223372036854775807) (hN1w : -9223372036854775808 ≤ Nw) (hN2w : Nw ≤ 9223372036854775807) (hyw : BytesAt w aw lw cw pw) (hN1o : -9223372036854775808 ≤ No) (hN2o : No ≤ 9223372036854775807) (hyo : BytesAt w ao lo co po) (hfw : lw ≤ 100) (hfo : lo ≤ 100) (hrw : RightI pw Nw) (hro : RightI po No) (dW : List Nat) (hbw : IsBits dW) (hpw : pw = pack dW) (hlw : dW.length ≤ 1000) (hnw : Nw = (dW.length : Int)) (dO : List Nat) (hbo : IsBits dO) (hpo : po = pack dO) (hlo : dO.length ≤ 1000) (hno : No = (dO.length : Int)) (dP : List Nat) (e v : Nat) (c e' : Int) (h1 : putS dW n wide = (dP, e')) (h2 : takeS dW at_ wide = (v, c)) :
    Calls Try.prog 3 #[.agg #[.slice aw lw cw, .int .i64 Nw, .slice ao lo co, .int .i64 No, .int .u64 (n : Int), .int .i64 at_, .int .i64 wide]] w fun e w' => e = .returned (.bool true) ∧ Below w.heap.size w w' := by
  have hsw := hyw.small
  have hso := hyo.small
  have dfw : decide (lw ≤ 100) = true := by simpa using hfw
  have dfo : decide (lo ≤ 100) = true := by simpa using hfo
  have drw : decide (RightI pw Nw) = true := by simpa using hrw
  have HRw := Lib.hid drw
  clear drw
  obtain ⟨D, hD⟩ : ∃ D, decide (Nw = No ∧ pw = po) = D := ⟨_, rfl⟩
  have HD := Lib.hid hD
  obtain ⟨B, hB⟩ : ∃ B, Lib.bitLen n = B := ⟨_, rfl⟩
  have HB := Lib.hid hB
  clear hD hB
  have dro : decide (RightI po No) = true := by simpa using hro
  have HRo := Lib.hid dro
  clear dro
  have HPw := Lib.hid hpw
  have HNw := Lib.hid hnw
  have HP1 := Lib.hid h1
  have HT1 := Lib.hid h2
  clear hpw hnw h1 h2
  have HPo := Lib.hid hpo
  have HNo := Lib.hid hno
  clear hpo hno
  obtain ⟨dJ, hJ⟩ : ∃ dJ, dW ++ dO = dJ := ⟨_, rfl⟩
  have HJ := Lib.hid hJ
  clear hJ
  obtain ⟨W4, hW4⟩ : ∃ W4, W4 = (((w.alloc (.cells #[.slice aw lw cw, .int .i64 Nw, .slice ao lo co, .int .i64 No, .int .u64 (n : Int), .int .i64 at_, .int .i64 wide] 27)).alloc (.cells #[.slice aw lw cw, .int .i64 Nw] 24)).alloc (.cells #[.slice ao lo co, .int .i64 No] 24)) := ⟨_, rfl⟩
  have b0 : Below w.heap.size w W4 := by
    rw [hW4]
    exact ((((Below.refl _ _).alloc (Nat.le_refl _) _).alloc (by simp) _).alloc (by simp; omega) _)
  have xw : BitsBox W4 (w.heap.size + 1) aw lw cw Nw := by
    rw [hW4]
    refine (Below.heap_alloc _ _ _ (by simp)).trans ?_
    have := World.alloc_heap_new (w.alloc (.cells #[.slice aw lw cw, .int .i64 Nw, .slice ao lo co, .int .i64 No, .int .u64 (n : Int), .int .i64 at_, .int .i64 wide] 27)) (.cells #[.slice aw lw cw, .int .i64 Nw] 24)
    rw [show (w.alloc (.cells #[.slice aw lw cw, .int .i64 Nw, .slice ao lo co, .int .i64 No, .int .u64 (n : Int), .int .i64 at_, .int .i64 wide] 27)).heap.size = w.heap.size + 1 from by simp] at this
    exact this
  have xo : BitsBox W4 (w.heap.size + 2) ao lo co No := by
    rw [hW4]
    have := World.alloc_heap_new ((w.alloc (.cells #[.slice aw lw cw, .int .i64 Nw, .slice ao lo co, .int .i64 No, .int .u64 (n : Int), .int .i64 at_, .int .i64 wide] 27)).alloc (.cells #[.slice aw lw cw, .int .i64 Nw] 24)) (.cells #[.slice ao lo co, .int .i64 No] 24)
    rw [show ((w.alloc (.cells #[.slice aw lw cw, .int .i64 Nw, .slice ao lo co, .int .i64 No, .int .u64 (n : Int), .int .i64 at_, .int .i64 wide] 27)).alloc (.cells #[.slice aw lw cw, .int .i64 Nw] 24)).heap.size = w.heap.size + 2 from by simp] at this
    exact this
  have yw := hyw.mono b0
  have yo := hyo.mono b0
  go_enter Try.func3, Try.ntmps3
  go_wp2_with fail
  rw [← hW4]
  clear hW4
  refine (shown_any _).mono ?_
  rintro e0 ws ⟨rfl, bs1⟩
  have xw := xw.below bs1
  have xo := xo.below bs1
  have yw := yw.mono bs1
  have yo := yo.mono bs1
  have Bel := below_then b0 bs1
  have xw_0 := xw.cell0
  have xw_1 := xw.cell1
  have xo_0 := xo.cell0
  have xo_1 := xo.cell1
  go_wp2_with fail
  refine (few_any _ aw lw cw Nw hsw).mono ?_
  rintro e wfw ⟨rfl, bfw⟩
  have xw := xw.below bfw
  have xo := xo.below bfw
  have yw := yw.mono bfw
  have yo := yo.mono bfw
  have Bel := below_then Bel bfw
  have xw_0 := xw.cell0
  have xw_1 := xw.cell1
  have xo_0 := xo.cell0
  have xo_1 := xo.cell1
  rw [dfw]
  go_wp2_with fail
  refine (few_any _ ao lo co No hso).mono ?_
  rintro e wfo ⟨rfl, bfo⟩
  have xw := xw.below bfo
  have xo := xo.below bfo
  have yw := yw.mono bfo
  have yo := yo.mono bfo
  have Bel := below_then Bel bfo
  have xw_0 := xw.cell0
  have xw_1 := xw.cell1
  have xo_0 := xo.cell0
  have xo_1 := xo.cell1
  rw [dfo]
  go_wp2_with fail
  refine (refright_any _ aw lw cw pw Nw hN1w hN2w (by omega) yw).mono ?_
  rintro e wr ⟨rfl, br⟩
  have xw := xw.below br
  have xo := xo.below br
  have yw := yw.mono br
  have yo := yo.mono br
  have Bel := below_then Bel br
  have xw_0 := xw.cell0
  have xw_1 := xw.cell1
  have xo_0 := xo.cell0
  have xo_1 := xo.cell1
  rw [HRw.out]
  have J0 : Pair w wr.drew (w.heap.size + 1) aw lw cw Nw pw (w.heap.size + 2) ao lo co No po := ⟨xw.below (Below.refl _ _).drew, yw.mono (Below.refl _ _).drew, xo.below (Below.refl _ _).drew, yo.mono (Below.refl _ _).drew, Bel.drew⟩
  have q0 := J0.x1.cell0; have q1 := J0.x1.cell1; have q2 := J0.x2.cell0; have q3 := J0.x2.cell1
  go_wp2
  go_region_held3 (fun w' => Pair w w' (w.heap.size + 1) aw lw cw Nw pw (w.heap.size + 2) ao lo co No po ∧ w'.cell? ⟨w.heap.size + 1, 0, none⟩ = some (.slice aw lw cw) ∧ w'.cell? ⟨w.heap.size + 1, 1, none⟩ = some (.int .i64 Nw) ∧ w'.cell? ⟨w.heap.size + 2, 0, none⟩ = some (.slice ao lo co) ∧ w'.cell? ⟨w.heap.size + 2, 1, none⟩ = some (.int .i64 No))
    (first | exact ⟨J0, q0, q1, q2, q3⟩ | exact ⟨by assumption, z0, z1, z2, z3⟩)
    (first | (go_at_call 13; refine (right_any _ aw lw cw pw Nw hN1w hN2w (by omega) J0.y1).mono ?_; rintro e0 w1 ⟨rfl, b1⟩; rw [HRw.out]; have J1 := J0.below b1; have z0 := J1.x1.cell0; have z1 := J1.x1.cell1; have z2 := J1.x2.cell0; have z3 := J1.x2.cell1) | (go_at_call 14; refine (same_any _ aw ao lw cw lo co Nw No pw po J1.y1 J1.y2).mono ?_; rintro e0 w2 ⟨rfl, b2⟩; rw [HD.out]; have J2 := J1.below b2; have z0 := J2.x1.cell0; have z1 := J2.x1.cell1; have z2 := J2.x2.cell0; have z3 := J2.x2.cell1) | (go_at_call 15; refine (refsame_any _ aw ao lw cw lo co Nw No pw po J2.y1 J2.y2).mono ?_; rintro e0 w3 ⟨rfl, b3⟩; rw [HD.out]; have J3 := J2.below b3; have z0 := J3.x1.cell0; have z1 := J3.x1.cell1; have z2 := J3.x2.cell0; have z3 := J3.x2.cell1) | (go_at_call 16; refine (wide_any _ n hn).mono ?_; rintro e0 w4 ⟨rfl, rfl⟩; rw [HB.out]) | (go_at_call 17; refine (refwide_any _ n hn).mono ?_; rintro e0 w5 ⟨rfl, rfl⟩; rw [HB.out]))
  have xw := J3.x1
  have xo := J3.x2
  have yw := J3.y1
  have yo := J3.y2
  have Bel := J3.bel
  have xw_0 := xw.cell0
  have xw_1 := xw.cell1
  have xo_0 := xo.cell0
  have xo_1 := xo.cell1
  rw [HPw.out] at yw
  go_wp2_with fail
  refine (put_any _ aw lw cw dW hbw (by omega) n hn wide yw _ _ HP1.out _ HNw.out).mono ?_
  rintro e w6 ⟨a6, l6, c6, rfl, y6, b6⟩
  have xw := xw.below b6
  have xo := xo.below b6
  have yw := yw.mono b6
  have yo := yo.mono b6
  have Bel := below_then Bel b6
  have x6 : BitsBox (w6.alloc (.cells #[.slice a6 l6 c6, .int .i64 (dP.length : Int)] 24)) w6.heap.size a6 l6 c6 (dP.length : Int) := World.alloc_heap_new _ _
  have xw := xw.below ((Below.refl w6.heap.size w6).alloc (Nat.le_refl _) (.cells #[.slice a6 l6 c6, .int .i64 (dP.length : Int)] 24))
  have xo := xo.below ((Below.refl w6.heap.size w6).alloc (Nat.le_refl _) (.cells #[.slice a6 l6 c6, .int .i64 (dP.length : Int)] 24))
  have yw := yw.mono ((Below.refl w6.heap.size w6).alloc (Nat.le_refl _) (.cells #[.slice a6 l6 c6, .int .i64 (dP.length : Int)] 24))
  have yo := yo.mono ((Below.refl w6.heap.size w6).alloc (Nat.le_refl _) (.cells #[.slice a6 l6 c6, .int .i64 (dP.length : Int)] 24))
  have y6 := y6.mono ((Below.refl w6.heap.size w6).alloc (Nat.le_refl _) (.cells #[.slice a6 l6 c6, .int .i64 (dP.length : Int)] 24))
  have Bel := below_new Bel (.cells #[.slice a6 l6 c6, .int .i64 (dP.length : Int)] 24)
  have xw_0 := xw.cell0
  have xw_1 := xw.cell1
  have xo_0 := xo.cell0
  have xo_1 := xo.cell1
  have x6_0 := x6.cell0
  have x6_1 := x6.cell1
  go_wp2_with fail
  refine (refput_any _ aw lw cw dW hbw (by omega) n hn wide hwd1 hwd2 yw _ _ HP1.out _ HNw.out).mono ?_
  rintro e w7 ⟨a7, l7, c7, rfl, y7, b7⟩
  have xw := xw.below b7
  have xo := xo.below b7
  have x6 := x6.below b7
  have yw := yw.mono b7
  have yo := yo.mono b7
  have y6 := y6.mono b7
  have Bel := below_then Bel b7
  have x7 : BitsBox (w7.alloc (.cells #[.slice a7 l7 c7, .int .i64 (dP.length : Int)] 24)) w7.heap.size a7 l7 c7 (dP.length : Int) := World.alloc_heap_new _ _
  have xw := xw.below ((Below.refl w7.heap.size w7).alloc (Nat.le_refl _) (.cells #[.slice a7 l7 c7, .int .i64 (dP.length : Int)] 24))
  have xo := xo.below ((Below.refl w7.heap.size w7).alloc (Nat.le_refl _) (.cells #[.slice a7 l7 c7, .int .i64 (dP.length : Int)] 24))
  have x6 := x6.below ((Below.refl w7.heap.size w7).alloc (Nat.le_refl _) (.cells #[.slice a7 l7 c7, .int .i64 (dP.length : Int)] 24))
  have yw := yw.mono ((Below.refl w7.heap.size w7).alloc (Nat.le_refl _) (.cells #[.slice a7 l7 c7, .int .i64 (dP.length : Int)] 24))
  have yo := yo.mono ((Below.refl w7.heap.size w7).alloc (Nat.le_refl _) (.cells #[.slice a7 l7 c7, .int .i64 (dP.length : Int)] 24))
  have y6 := y6.mono ((Below.refl w7.heap.size w7).alloc (Nat.le_refl _) (.cells #[.slice a7 l7 c7, .int .i64 (dP.length : Int)] 24))
  have y7 := y7.mono ((Below.refl w7.heap.size w7).alloc (Nat.le_refl _) (.cells #[.slice a7 l7 c7, .int .i64 (dP.length : Int)] 24))
  have Bel := below_new Bel (.cells #[.slice a7 l7 c7, .int .i64 (dP.length : Int)] 24)
  have xw_0 := xw.cell0
  have xw_1 := xw.cell1
  have xo_0 := xo.cell0
  have xo_1 := xo.cell1
  have x6_0 := x6.cell0
  have x6_1 := x6.cell1
  have x7_0 := x7.cell0
  have x7_1 := x7.cell1
  go_wp2_with fail
  refine (take_any _ aw lw cw dW hbw (by omega) at_ wide yw _ _ HT1.out _ HNw.out).mono ?_
  rintro e wt ⟨rfl, bt⟩
  have xw := xw.below bt
  have xo := xo.below bt
  have x6 := x6.below bt
  have x7 := x7.below bt
  have yw := yw.mono bt
  have yo := yo.mono bt
  have y6 := y6.mono bt
  have y7 := y7.mono bt
  have Bel := below_then Bel bt
  have xw_0 := xw.cell0
  have xw_1 := xw.cell1
  have xo_0 := xo.cell0
  have xo_1 := xo.cell1
  have x6_0 := x6.cell0
  have x6_1 := x6.cell1
  have x7_0 := x7.cell0
  have x7_1 := x7.cell1
  go_wp2_with fail
  refine (reftake_any _ aw lw cw dW hbw (by omega) at_ wide hwd1 hwd2 hat1 hat2 yw _ _ HT1.out _ HNw.out).mono ?_
  rintro e wu ⟨rfl, bu⟩
  have xw := xw.below bu
  have xo := xo.below bu
  have x6 := x6.below bu
  have x7 := x7.below bu
  have yw := yw.mono bu
  have yo := yo.mono bu
  have y6 := y6.mono bu
  have y7 := y7.mono bu
  have Bel := below_then Bel bu
  have xw_0 := xw.cell0
  have xw_1 := xw.cell1
  have xo_0 := xo.cell0
  have xo_1 := xo.cell1
  have x6_0 := x6.cell0
  have x6_1 := x6.cell1
  have x7_0 := x7.cell0
  have x7_1 := x7.cell1
  have K0 : Four w wu.drew (w.heap.size + 1) aw lw cw Nw (pack dW) (w.heap.size + 2) ao lo co No po w6.heap.size a6 l6 c6 (dP.length : Int) (pack dP) w7.heap.size a7 l7 c7 (dP.length : Int) (pack dP) := ⟨xw.below (Below.refl _ _).drew, yw.mono (Below.refl _ _).drew, xo.below (Below.refl _ _).drew, yo.mono (Below.refl _ _).drew, x6.below (Below.refl _ _).drew, y6.mono (Below.refl _ _).drew, x7.below (Below.refl _ _).drew, y7.mono (Below.refl _ _).drew, Bel.drew⟩
  have q0 := K0.x1.cell0; have q1 := K0.x1.cell1; have q2 := K0.x2.cell0; have q3 := K0.x2.cell1; have q4 := K0.x3.cell0; have q5 := K0.x3.cell1; have q6 := K0.x4.cell0; have q7 := K0.x4.cell1
  go_wp2
  go_region_held3 (fun w' => Four w w' (w.heap.size + 1) aw lw cw Nw (pack dW) (w.heap.size + 2) ao lo co No po w6.heap.size a6 l6 c6 (dP.length : Int) (pack dP) w7.heap.size a7 l7 c7 (dP.length : Int) (pack dP) ∧ w'.cell? ⟨w.heap.size + 1, 0, none⟩ = some (.slice aw lw cw) ∧ w'.cell? ⟨w.heap.size + 1, 1, none⟩ = some (.int .i64 Nw) ∧ w'.cell? ⟨w.heap.size + 2, 0, none⟩ = some (.slice ao lo co) ∧ w'.cell? ⟨w.heap.size + 2, 1, none⟩ = some (.int .i64 No) ∧ w'.cell? ⟨w6.heap.size, 0, none⟩ = some (.slice a6 l6 c6) ∧ w'.cell? ⟨w6.heap.size, 1, none⟩ = some (.int .i64 (dP.length : Int)) ∧ w'.cell? ⟨w7.heap.size, 0, none⟩ = some (.slice a7 l7 c7) ∧ w'.cell? ⟨w7.heap.size, 1, none⟩ = some (.int .i64 (dP.length : Int)))
    (first | exact ⟨K0, q0, q1, q2, q3, q4, q5, q6, q7⟩ | exact ⟨by assumption, z0, z1, z2, z3, z4, z5, z6, z7⟩)
    (first | (go_at_call_of 15 a6; refine (refsame_same K0.y3 K0.y4).mono ?_; rintro e0 w8 ⟨rfl, b8⟩; have K1 := K0.below b8; have z0 := K1.x1.cell0; have z1 := K1.x1.cell1; have z2 := K1.x2.cell0; have z3 := K1.x2.cell1; have z4 := K1.x3.cell0; have z5 := K1.x3.cell1; have z6 := K1.x4.cell0; have z7 := K1.x4.cell1) | (go_at_call 12; refine (refright_any _ ao lo co po No hN1o hN2o (by omega) K1.y2).mono ?_; rintro e0 w9 ⟨rfl, b9⟩; rw [HRo.out]; have K2 := K1.below b9; have z0 := K2.x1.cell0; have z1 := K2.x1.cell1; have z2 := K2.x2.cell0; have z3 := K2.x2.cell1; have z4 := K2.x3.cell0; have z5 := K2.x3.cell1; have z6 := K2.x4.cell0; have z7 := K2.x4.cell1) | (go_at_call 22; refine (join_at _ _ _ _ _ _ _ dW dO hbw hbo (by omega) (by omega) K2.y1 (by have := K2.y2; rw [HPo.out] at this; exact this) dJ HJ.out _ _ HNw.out HNo.out).mono ?_; rintro e0 w10 ⟨a10, l10, c10, rfl, y10, b10⟩; have K3 := K2.below b10; have z0 := K3.x1.cell0; have z1 := K3.x1.cell1; have z2 := K3.x2.cell0; have z3 := K3.x2.cell1; have z4 := K3.x3.cell0; have z5 := K3.x3.cell1; have z6 := K3.x4.cell0; have z7 := K3.x4.cell1) | (go_at_call 23; refine (refjoin_at _ _ _ _ _ _ _ dW dO hbw hbo (by omega) (by omega) K3.y1 (by have := K3.y2; rw [HPo.out] at this; exact this) dJ HJ.out _ _ HNw.out HNo.out).mono ?_; rintro e0 w11 ⟨a11, l11, c11, rfl, y11, b11⟩; have y10' := y10.mono b11; have K4 := K3.below b11; have z0 := K4.x1.cell0; have z1 := K4.x1.cell1; have z2 := K4.x2.cell0; have z3 := K4.x2.cell1; have z4 := K4.x3.cell0; have z5 := K4.x3.cell1; have z6 := K4.x4.cell0; have z7 := K4.x4.cell1) | (go_at_call_of 15 a11; refine (refsame_same y10' y11).mono ?_; rintro e0 w12 ⟨rfl, b12⟩; have K5 := K4.below b12; have z0 := K5.x1.cell0; have z1 := K5.x1.cell1; have z2 := K5.x2.cell0; have z3 := K5.x2.cell1; have z4 := K5.x3.cell0; have z5 := K5.x3.cell1; have z6 := K5.x4.cell0; have z7 := K5.x4.cell1))
  go_wp2
  go_ret
  exact ⟨rfl, K5.bel⟩
theorem bitstells_any (w : World) (aw : Option Addr) (lw cw : Nat) (pw : List Nat) (Nw : Int) (ao : Option Addr) (lo co : Nat) (po : List Nat) (No : Int) (n : Nat) (at_ wide : Int) (hn : n < 18446744073709551616) (hat1 : -9223372036854775808 ≤ at_) (hat2 : at_ ≤ 9223372036854775807) (hwd1 : -9223372036854775808 ≤ wide) (hwd2 : wide ≤ 9223372036854775807) (hN1w : -9223372036854775808 ≤ Nw) (hN2w : Nw ≤ 9223372036854775807) (hyw : BytesAt w aw lw cw pw) (hN1o : -9223372036854775808 ≤ No) (hN2o : No ≤ 9223372036854775807) (hyo : BytesAt w ao lo co po) :
    Calls Try.prog 3 #[.agg #[.slice aw lw cw, .int .i64 Nw, .slice ao lo co, .int .i64 No, .int .u64 (n : Int), .int .i64 at_, .int .i64 wide]] w fun e w' => e = .returned (.bool true) ∧ Below w.heap.size w w' := by
  by_cases hfw : lw ≤ 100
  case neg => exact bitstells_few0 w aw lw cw pw Nw ao lo co po No n at_ wide hn hat1 hat2 hwd1 hwd2 hN1w hN2w hyw hN1o hN2o hyo hfw
  by_cases hfo : lo ≤ 100
  case neg => exact bitstells_few1 w aw lw cw pw Nw ao lo co po No n at_ wide hn hat1 hat2 hwd1 hwd2 hN1w hN2w hyw hN1o hN2o hyo hfw hfo
  by_cases hrw : RightI pw Nw
  case neg => exact bitstells_wrong w aw lw cw pw Nw ao lo co po No n at_ wide hn hat1 hat2 hwd1 hwd2 hN1w hN2w hyw hN1o hN2o hyo hfw hfo hrw
  obtain ⟨dW, hbw, hpw, hnw⟩ := right_bits hyw.byte hrw
  have hlw : dW.length ≤ 1000 := by have := hyw.len_eq; rw [hpw, pack_length] at this; omega
  obtain ⟨⟨dP, e'⟩, h1⟩ : ∃ x, putS dW n wide = x := ⟨_, rfl⟩
  obtain ⟨⟨v, c⟩, h2⟩ : ∃ x, takeS dW at_ wide = x := ⟨_, rfl⟩
  by_cases hro : RightI po No
  case neg => exact bitstells_half w aw lw cw pw Nw ao lo co po No n at_ wide hn hat1 hat2 hwd1 hwd2 hN1w hN2w hyw hN1o hN2o hyo hfw hfo hrw hro dW hbw hpw hlw hnw dP 0 v c e' h1 h2
  obtain ⟨dO, hbo, hpo, hno⟩ := right_bits hyo.byte hro
  have hlo : dO.length ≤ 1000 := by have := hyo.len_eq; rw [hpo, pack_length] at this; omega
  exact bitstells_yes w aw lw cw pw Nw ao lo co po No n at_ wide hn hat1 hat2 hwd1 hwd2 hN1w hN2w hyw hN1o hN2o hyo hfw hfo hrw hro dW hbw hpw hlw hnw dO hbo hpo hlo hno dP 0 v c e' h1 h2
end Go.Proofs.Yticbbldlhbooeaa
