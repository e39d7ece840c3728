/- BitsParts returns true. -/
import Derived.Test.YticbbldlhbooeaaBitsHead
import Derived.Test.YticbbldlhbooeaaBitsWide
import Derived.Test.YticbbldlhbooeaaBitsRef6
namespace Go.Proofs.Yticbbldlhbooeaa
open Go.RowKit
set_option linter.unusedVariables false

theorem refsame_same {w : World} {a b : Option Addr} {l c l' c' : Nat} {N : Int} {bs : List Nat} (h : BytesAt w a l c bs) (h' : BytesAt w b l' c' bs) : Calls Try.prog 15 #[.agg #[.slice a l c, .int .i64 N], .agg #[.slice b l' c', .int .i64 N]] w fun e w' => e = .returned (.bool true) ∧ Below w.heap.size w w' := by
  have hr := refsame_any w a b l c l' c' N N _ _ h h'
  rw [show decide (N = N ∧ bs = bs) = true by simp] at hr
  exact hr
set_option maxHeartbeats 8000000 in
theorem bitsparts_pos (w : World) (a0 : Option Addr) (l0 c0 : Nat) (bs : List Nat) (hbs : IsBits bs) (hsm : bs.length ≤ 1000) (hfew : l0 ≤ 100) (N : Int) (hN : N = (bs.length : Int)) (hi lo G k : Nat) (hhi : hi < 4294967296) (hlo : lo < 4294967296) (hG : G = hi * 4294967296 + lo) (hk : Lib.bitLen hi = k) (hk0 : 0 < k) (hy : BytesAt w a0 l0 c0 (pack bs)) (dA dB dD dE : List Nat) (hA : IsBits dA) (hAl : dA.length ≤ 2000) (hB : dB.length ≤ 9000)
    (h1 : putS bs hi 32 = (dA, 0)) (h2 : putS dA lo 32 = (dB, 0)) (h3 : putS bs G 64 = (dB, 0)) (h4 : putS bs hi (k : Int) = (dD, 0)) (h5 : putS bs hi ((k : Int) - 1) = (dE, 5)) :
    Calls Try.prog 6 #[.agg #[.slice a0 l0 c0, .int .i64 N], .int .u32 (hi : Int), .int .u32 (lo : Int)] w fun e w' => e = .returned (.bool true) ∧ Below w.heap.size w w' := by
  have HP1 := Lib.hid h1
  have HP2 := Lib.hid h2
  have HP3 := Lib.hid h3
  have HP4 := Lib.hid h4
  have HP5 := Lib.hid h5
  have HN := Lib.hid hN
  have HK := Lib.hid hk
  have hGb : G < 18446744073709551616 := by omega
  have d1 : decide (l0 ≤ 100) = true := by simpa using hfew
  have hright : decide (RightI (pack bs) N) = true := by
    rw [decide_eq_true_iff, hN]
    exact ⟨by omega, by rw [Int.toNat_natCast]; exact pack_right hbs⟩
  have HR := Lib.hid hright
  obtain ⟨M, hM⟩ : ∃ M : Nat, (hi : Int) * 4294967296 = (M : Int) := ⟨hi * 4294967296, by omega⟩
  have hMG : (M : Int) + (lo : Int) = (G : Int) := by omega
  have hMb : (M : Int) < 18446744073709551616 := by omega
  have hN1 : -9223372036854775808 ≤ N := by omega
  have hN2 : N ≤ 9223372036854775807 := by omega
  have d3 : ((k : Int) == 0) = false := by simp; omega
  have d4 : decide ((0 : Int) < (k : Int)) = true := by simpa using hk0
  have hkb : k ≤ 64 := by rw [← hk]; exact Lib.bitLen_le hi 64 (by omega) (by omega)
  clear hG h1 h2 h3 h4 h5 hN hk hright
  have x0 : BitsBox (w.alloc (.cells #[.slice a0 l0 c0, .int .i64 N] 24)) w.heap.size a0 l0 c0 N := World.alloc_heap_new _ _
  have y0 := hy.mono ((Below.refl w.heap.size w).alloc (Nat.le_refl _) (.cells #[.slice a0 l0 c0, .int .i64 N] 24))
  go_enter Try.func6, Try.ntmps6
  go_wp2_with fail
  refine (shown_any _).mono ?_
  rintro e ws ⟨rfl, bs1⟩
  have x0 := x0.below bs1
  have y0 := y0.mono bs1
  have Bel := below_then ((Below.refl w.heap.size w).alloc (Nat.le_refl _) (.cells #[.slice a0 l0 c0, .int .i64 N] 24)) bs1
  have x0_0 := x0.cell0
  have x0_1 := x0.cell1
  go_wp2_with fail
  refine (few_any _ a0 l0 c0 N (by omega)).mono ?_
  rintro e wf ⟨rfl, bf1⟩
  have x0 := x0.below bf1
  have y0 := y0.mono bf1
  have Bel := below_then Bel bf1
  have x0_0 := x0.cell0
  have x0_1 := x0.cell1
  rw [d1]
  go_wp2_with fail
  refine (refright_any _ a0 l0 c0 (pack bs) N hN1 hN2 (by omega) y0).mono ?_
  rintro e wr ⟨rfl, br1⟩
  have x0 := x0.below br1
  have y0 := y0.mono br1
  have Bel := below_then Bel br1
  have x0_0 := x0.cell0
  have x0_1 := x0.cell1
  rw [HR.out]
  go_wp2_with fail
  refine (put_any _ a0 l0 c0 bs hbs (by omega) hi (by omega) 32 y0 _ _ HP1.out N HN.out).mono ?_
  rintro e w1 ⟨a1, l1, c1, rfl, y1, b1⟩
  have x0 := x0.below b1
  have y0 := y0.mono b1
  have Bel := below_then Bel b1
  have x1 : BitsBox (w1.alloc (.cells #[.slice a1 l1 c1, .int .i64 (dA.length : Int)] 24)) w1.heap.size a1 l1 c1 (dA.length : Int) := World.alloc_heap_new _ _
  have x0 := x0.below ((Below.refl w1.heap.size w1).alloc (Nat.le_refl _) (.cells #[.slice a1 l1 c1, .int .i64 (dA.length : Int)] 24))
  have y0 := y0.mono ((Below.refl w1.heap.size w1).alloc (Nat.le_refl _) (.cells #[.slice a1 l1 c1, .int .i64 (dA.length : Int)] 24))
  have y1 := y1.mono ((Below.refl w1.heap.size w1).alloc (Nat.le_refl _) (.cells #[.slice a1 l1 c1, .int .i64 (dA.length : Int)] 24))
  have Bel := below_new Bel (.cells #[.slice a1 l1 c1, .int .i64 (dA.length : Int)] 24)
  have x0_0 := x0.cell0
  have x0_1 := x0.cell1
  have x1_0 := x1.cell0
  have x1_1 := x1.cell1
  go_wp2_with fail
  refine (put_any _ a1 l1 c1 dA hA (by omega) lo (by omega) 32 y1 _ _ HP2.out _ rfl).mono ?_
  rintro e w2 ⟨a2, l2, c2, rfl, y2, b2⟩
  have x0 := x0.below b2
  have x1 := x1.below b2
  have y0 := y0.mono b2
  have y1 := y1.mono b2
  have Bel := below_then Bel b2
  have x2 : BitsBox (w2.alloc (.cells #[.slice a2 l2 c2, .int .i64 (dB.length : Int)] 24)) w2.heap.size a2 l2 c2 (dB.length : Int) := World.alloc_heap_new _ _
  have x0 := x0.below ((Below.refl w2.heap.size w2).alloc (Nat.le_refl _) (.cells #[.slice a2 l2 c2, .int .i64 (dB.length : Int)] 24))
  have x1 := x1.below ((Below.refl w2.heap.size w2).alloc (Nat.le_refl _) (.cells #[.slice a2 l2 c2, .int .i64 (dB.length : Int)] 24))
  have y0 := y0.mono ((Below.refl w2.heap.size w2).alloc (Nat.le_refl _) (.cells #[.slice a2 l2 c2, .int .i64 (dB.length : Int)] 24))
  have y1 := y1.mono ((Below.refl w2.heap.size w2).alloc (Nat.le_refl _) (.cells #[.slice a2 l2 c2, .int .i64 (dB.length : Int)] 24))
  have y2 := y2.mono ((Below.refl w2.heap.size w2).alloc (Nat.le_refl _) (.cells #[.slice a2 l2 c2, .int .i64 (dB.length : Int)] 24))
  have Bel := below_new Bel (.cells #[.slice a2 l2 c2, .int .i64 (dB.length : Int)] 24)
  have x0_0 := x0.cell0
  have x0_1 := x0.cell1
  have x1_0 := x1.cell0
  have x1_1 := x1.cell1
  have x2_0 := x2.cell0
  have x2_1 := x2.cell1
  go_wp2_with fail
  refine (put_any _ a0 l0 c0 bs hbs (by omega) G hGb 64 y0 _ _ HP3.out N HN.out).mono ?_
  rintro e w3 ⟨a3, l3, c3, rfl, y3, b3⟩
  have x0 := x0.below b3
  have x1 := x1.below b3
  have x2 := x2.below b3
  have y0 := y0.mono b3
  have y1 := y1.mono b3
  have y2 := y2.mono b3
  have Bel := below_then Bel b3
  have x3 : BitsBox (w3.alloc (.cells #[.slice a3 l3 c3, .int .i64 (dB.length : Int)] 24)) w3.heap.size a3 l3 c3 (dB.length : Int) := World.alloc_heap_new _ _
  have x0 := x0.below ((Below.refl w3.heap.size w3).alloc (Nat.le_refl _) (.cells #[.slice a3 l3 c3, .int .i64 (dB.length : Int)] 24))
  have x1 := x1.below ((Below.refl w3.heap.size w3).alloc (Nat.le_refl _) (.cells #[.slice a3 l3 c3, .int .i64 (dB.length : Int)] 24))
  have x2 := x2.below ((Below.refl w3.heap.size w3).alloc (Nat.le_refl _) (.cells #[.slice a3 l3 c3, .int .i64 (dB.length : Int)] 24))
  have y0 := y0.mono ((Below.refl w3.heap.size w3).alloc (Nat.le_refl _) (.cells #[.slice a3 l3 c3, .int .i64 (dB.length : Int)] 24))
  have y1 := y1.mono ((Below.refl w3.heap.size w3).alloc (Nat.le_refl _) (.cells #[.slice a3 l3 c3, .int .i64 (dB.length : Int)] 24))
  have y2 := y2.mono ((Below.refl w3.heap.size w3).alloc (Nat.le_refl _) (.cells #[.slice a3 l3 c3, .int .i64 (dB.length : Int)] 24))
  have y3 := y3.mono ((Below.refl w3.heap.size w3).alloc (Nat.le_refl _) (.cells #[.slice a3 l3 c3, .int .i64 (dB.length : Int)] 24))
  have Bel := below_new Bel (.cells #[.slice a3 l3 c3, .int .i64 (dB.length : Int)] 24)
  have x0_0 := x0.cell0
  have x0_1 := x0.cell1
  have x1_0 := x1.cell0
  have x1_1 := x1.cell1
  have x2_0 := x2.cell0
  have x2_1 := x2.cell1
  have x3_0 := x3.cell0
  have x3_1 := x3.cell1
  go_wp2_with fail
  refine (wide_any _ hi (by omega)).mono ?_
  rintro e ww ⟨rfl, rfl⟩
  rw [HK.out]
  go_wp2_with fail
  refine (put_any _ a0 l0 c0 bs hbs (by omega) hi (by omega) (k : Int) y0 _ _ HP4.out N HN.out).mono ?_
  rintro e w4 ⟨a4, l4, c4, rfl, y4, b4⟩
  have x0 := x0.below b4
  have x1 := x1.below b4
  have x2 := x2.below b4
  have x3 := x3.below b4
  have y0 := y0.mono b4
  have y1 := y1.mono b4
  have y2 := y2.mono b4
  have y3 := y3.mono b4
  have Bel := below_then Bel b4
  have x4 : BitsBox (w4.alloc (.cells #[.slice a4 l4 c4, .int .i64 (dD.length : Int)] 24)) w4.heap.size a4 l4 c4 (dD.length : Int) := World.alloc_heap_new _ _
  have x0 := x0.below ((Below.refl w4.heap.size w4).alloc (Nat.le_refl _) (.cells #[.slice a4 l4 c4, .int .i64 (dD.length : Int)] 24))
  have x1 := x1.below ((Below.refl w4.heap.size w4).alloc (Nat.le_refl _) (.cells #[.slice a4 l4 c4, .int .i64 (dD.length : Int)] 24))
  have x2 := x2.below ((Below.refl w4.heap.size w4).alloc (Nat.le_refl _) (.cells #[.slice a4 l4 c4, .int .i64 (dD.length : Int)] 24))
  have x3 := x3.below ((Below.refl w4.heap.size w4).alloc (Nat.le_refl _) (.cells #[.slice a4 l4 c4, .int .i64 (dD.length : Int)] 24))
  have y0 := y0.mono ((Below.refl w4.heap.size w4).alloc (Nat.le_refl _) (.cells #[.slice a4 l4 c4, .int .i64 (dD.length : Int)] 24))
  have y1 := y1.mono ((Below.refl w4.heap.size w4).alloc (Nat.le_refl _) (.cells #[.slice a4 l4 c4, .int .i64 (dD.length : Int)] 24))
  have y2 := y2.mono ((Below.refl w4.heap.size w4).alloc (Nat.le_refl _) (.cells #[.slice a4 l4 c4, .int .i64 (dD.length : Int)] 24))
  have y3 := y3.mono ((Below.refl w4.heap.size w4).alloc (Nat.le_refl _) (.cells #[.slice a4 l4 c4, .int .i64 (dD.length : Int)] 24))
  have y4 := y4.mono ((Below.refl w4.heap.size w4).alloc (Nat.le_refl _) (.cells #[.slice a4 l4 c4, .int .i64 (dD.length : Int)] 24))
  have Bel := below_new Bel (.cells #[.slice a4 l4 c4, .int .i64 (dD.length : Int)] 24)
  have x0_0 := x0.cell0
  have x0_1 := x0.cell1
  have x1_0 := x1.cell0
  have x1_1 := x1.cell1
  have x2_0 := x2.cell0
  have x2_1 := x2.cell1
  have x3_0 := x3.cell0
  have x3_1 := x3.cell1
  go_wp2_with fail
  refine (put_any _ a0 l0 c0 bs hbs (by omega) hi (by omega) ((k : Int) - 1) y0 _ _ HP5.out N HN.out).mono ?_
  rintro e w5 ⟨a5, l5, c5, rfl, y5, b5⟩
  have x0 := x0.below b5
  have x1 := x1.below b5
  have x2 := x2.below b5
  have x3 := x3.below b5
  have y0 := y0.mono b5
  have y1 := y1.mono b5
  have y2 := y2.mono b5
  have y3 := y3.mono b5
  have Bel := below_then Bel b5
  have x5 : BitsBox (w5.alloc (.cells #[.slice a5 l5 c5, .int .i64 (dE.length : Int)] 24)) w5.heap.size a5 l5 c5 (dE.length : Int) := World.alloc_heap_new _ _
  have x0 := x0.below ((Below.refl w5.heap.size w5).alloc (Nat.le_refl _) (.cells #[.slice a5 l5 c5, .int .i64 (dE.length : Int)] 24))
  have x1 := x1.below ((Below.refl w5.heap.size w5).alloc (Nat.le_refl _) (.cells #[.slice a5 l5 c5, .int .i64 (dE.length : Int)] 24))
  have x2 := x2.below ((Below.refl w5.heap.size w5).alloc (Nat.le_refl _) (.cells #[.slice a5 l5 c5, .int .i64 (dE.length : Int)] 24))
  have x3 := x3.below ((Below.refl w5.heap.size w5).alloc (Nat.le_refl _) (.cells #[.slice a5 l5 c5, .int .i64 (dE.length : Int)] 24))
  have y0 := y0.mono ((Below.refl w5.heap.size w5).alloc (Nat.le_refl _) (.cells #[.slice a5 l5 c5, .int .i64 (dE.length : Int)] 24))
  have y1 := y1.mono ((Below.refl w5.heap.size w5).alloc (Nat.le_refl _) (.cells #[.slice a5 l5 c5, .int .i64 (dE.length : Int)] 24))
  have y2 := y2.mono ((Below.refl w5.heap.size w5).alloc (Nat.le_refl _) (.cells #[.slice a5 l5 c5, .int .i64 (dE.length : Int)] 24))
  have y3 := y3.mono ((Below.refl w5.heap.size w5).alloc (Nat.le_refl _) (.cells #[.slice a5 l5 c5, .int .i64 (dE.length : Int)] 24))
  have y5 := y5.mono ((Below.refl w5.heap.size w5).alloc (Nat.le_refl _) (.cells #[.slice a5 l5 c5, .int .i64 (dE.length : Int)] 24))
  have Bel := below_new Bel (.cells #[.slice a5 l5 c5, .int .i64 (dE.length : Int)] 24)
  have x0_0 := x0.cell0
  have x0_1 := x0.cell1
  have x1_0 := x1.cell0
  have x1_1 := x1.cell1
  have x2_0 := x2.cell0
  have x2_1 := x2.cell1
  have x3_0 := x3.cell0
  have x3_1 := x3.cell1
  go_wp2_with fail
  refine (refsame_same y2 y3).mono ?_
  rintro e w9 ⟨rfl, b9⟩
  go_wp2
  go_ret
  exact ⟨rfl, below_then Bel b9⟩
set_option maxHeartbeats 8000000 in
theorem bitsparts_zero (w : World) (a0 : Option Addr) (l0 c0 : Nat) (bs : List Nat) (hbs : IsBits bs) (hsm : bs.length ≤ 1000) (hfew : l0 ≤ 100) (N : Int) (hN : N = (bs.length : Int)) (hi lo G k : Nat) (hhi : hi < 4294967296) (hlo : lo < 4294967296) (hG : G = hi * 4294967296 + lo) (hk : Lib.bitLen hi = k) (hk0 : k = 0) (hy : BytesAt w a0 l0 c0 (pack bs)) (dA dB dD dE : List Nat) (hA : IsBits dA) (hAl : dA.length ≤ 2000) (hB : dB.length ≤ 9000)
    (h1 : putS bs hi 32 = (dA, 0)) (h2 : putS dA lo 32 = (dB, 0)) (h3 : putS bs G 64 = (dB, 0)) (h4 : putS bs hi (k : Int) = (dD, 0)) (h5 : putS bs hi ((k : Int) - 1) = (dE, 1)) :
    Calls Try.prog 6 #[.agg #[.slice a0 l0 c0, .int .i64 N], .int .u32 (hi : Int), .int .u32 (lo : Int)] w fun e w' => e = .returned (.bool true) ∧ Below w.heap.size w w' := by
  have HP1 := Lib.hid h1
  have HP2 := Lib.hid h2
  have HP3 := Lib.hid h3
  have HP4 := Lib.hid h4
  have HP5 := Lib.hid h5
  have HN := Lib.hid hN
  have HK := Lib.hid hk
  have hGb : G < 18446744073709551616 := by omega
  have d1 : decide (l0 ≤ 100) = true := by simpa using hfew
  have hright : decide (RightI (pack bs) N) = true := by
    rw [decide_eq_true_iff, hN]
    exact ⟨by omega, by rw [Int.toNat_natCast]; exact pack_right hbs⟩
  have HR := Lib.hid hright
  obtain ⟨M, hM⟩ : ∃ M : Nat, (hi : Int) * 4294967296 = (M : Int) := ⟨hi * 4294967296, by omega⟩
  have hMG : (M : Int) + (lo : Int) = (G : Int) := by omega
  have hMb : (M : Int) < 18446744073709551616 := by omega
  have hN1 : -9223372036854775808 ≤ N := by omega
  have hN2 : N ≤ 9223372036854775807 := by omega
  subst hk0
  clear hG h1 h2 h3 h4 h5 hN hk hright
  have x0 : BitsBox (w.alloc (.cells #[.slice a0 l0 c0, .int .i64 N] 24)) w.heap.size a0 l0 c0 N := World.alloc_heap_new _ _
  have y0 := hy.mono ((Below.refl w.heap.size w).alloc (Nat.le_refl _) (.cells #[.slice a0 l0 c0, .int .i64 N] 24))
  go_enter Try.func6, Try.ntmps6
  go_wp2_with fail
  refine (shown_any _).mono ?_
  rintro e ws ⟨rfl, bs1⟩
  have x0 := x0.below bs1
  have y0 := y0.mono bs1
  have Bel := below_then ((Below.refl w.heap.size w).alloc (Nat.le_refl _) (.cells #[.slice a0 l0 c0, .int .i64 N] 24)) bs1
  have x0_0 := x0.cell0
  have x0_1 := x0.cell1
  go_wp2_with fail
  refine (few_any _ a0 l0 c0 N (by omega)).mono ?_
  rintro e wf ⟨rfl, bf1⟩
  have x0 := x0.below bf1
  have y0 := y0.mono bf1
  have Bel := below_then Bel bf1
  have x0_0 := x0.cell0
  have x0_1 := x0.cell1
  rw [d1]
  go_wp2_with fail
  refine (refright_any _ a0 l0 c0 (pack bs) N hN1 hN2 (by omega) y0).mono ?_
  rintro e wr ⟨rfl, br1⟩
  have x0 := x0.below br1
  have y0 := y0.mono br1
  have Bel := below_then Bel br1
  have x0_0 := x0.cell0
  have x0_1 := x0.cell1
  rw [HR.out]
  go_wp2_with fail
  refine (put_any _ a0 l0 c0 bs hbs (by omega) hi (by omega) 32 y0 _ _ HP1.out N HN.out).mono ?_
  rintro e w1 ⟨a1, l1, c1, rfl, y1, b1⟩
  have x0 := x0.below b1
  have y0 := y0.mono b1
  have Bel := below_then Bel b1
  have x1 : BitsBox (w1.alloc (.cells #[.slice a1 l1 c1, .int .i64 (dA.length : Int)] 24)) w1.heap.size a1 l1 c1 (dA.length : Int) := World.alloc_heap_new _ _
  have x0 := x0.below ((Below.refl w1.heap.size w1).alloc (Nat.le_refl _) (.cells #[.slice a1 l1 c1, .int .i64 (dA.length : Int)] 24))
  have y0 := y0.mono ((Below.refl w1.heap.size w1).alloc (Nat.le_refl _) (.cells #[.slice a1 l1 c1, .int .i64 (dA.length : Int)] 24))
  have y1 := y1.mono ((Below.refl w1.heap.size w1).alloc (Nat.le_refl _) (.cells #[.slice a1 l1 c1, .int .i64 (dA.length : Int)] 24))
  have Bel := below_new Bel (.cells #[.slice a1 l1 c1, .int .i64 (dA.length : Int)] 24)
  have x0_0 := x0.cell0
  have x0_1 := x0.cell1
  have x1_0 := x1.cell0
  have x1_1 := x1.cell1
  go_wp2_with fail
  refine (put_any _ a1 l1 c1 dA hA (by omega) lo (by omega) 32 y1 _ _ HP2.out _ rfl).mono ?_
  rintro e w2 ⟨a2, l2, c2, rfl, y2, b2⟩
  have x0 := x0.below b2
  have x1 := x1.below b2
  have y0 := y0.mono b2
  have y1 := y1.mono b2
  have Bel := below_then Bel b2
  have x2 : BitsBox (w2.alloc (.cells #[.slice a2 l2 c2, .int .i64 (dB.length : Int)] 24)) w2.heap.size a2 l2 c2 (dB.length : Int) := World.alloc_heap_new _ _
  have x0 := x0.below ((Below.refl w2.heap.size w2).alloc (Nat.le_refl _) (.cells #[.slice a2 l2 c2, .int .i64 (dB.length : Int)] 24))
  have x1 := x1.below ((Below.refl w2.heap.size w2).alloc (Nat.le_refl _) (.cells #[.slice a2 l2 c2, .int .i64 (dB.length : Int)] 24))
  have y0 := y0.mono ((Below.refl w2.heap.size w2).alloc (Nat.le_refl _) (.cells #[.slice a2 l2 c2, .int .i64 (dB.length : Int)] 24))
  have y1 := y1.mono ((Below.refl w2.heap.size w2).alloc (Nat.le_refl _) (.cells #[.slice a2 l2 c2, .int .i64 (dB.length : Int)] 24))
  have y2 := y2.mono ((Below.refl w2.heap.size w2).alloc (Nat.le_refl _) (.cells #[.slice a2 l2 c2, .int .i64 (dB.length : Int)] 24))
  have Bel := below_new Bel (.cells #[.slice a2 l2 c2, .int .i64 (dB.length : Int)] 24)
  have x0_0 := x0.cell0
  have x0_1 := x0.cell1
  have x1_0 := x1.cell0
  have x1_1 := x1.cell1
  have x2_0 := x2.cell0
  have x2_1 := x2.cell1
  go_wp2_with fail
  refine (put_any _ a0 l0 c0 bs hbs (by omega) G hGb 64 y0 _ _ HP3.out N HN.out).mono ?_
  rintro e w3 ⟨a3, l3, c3, rfl, y3, b3⟩
  have x0 := x0.below b3
  have x1 := x1.below b3
  have x2 := x2.below b3
  have y0 := y0.mono b3
  have y1 := y1.mono b3
  have y2 := y2.mono b3
  have Bel := below_then Bel b3
  have x3 : BitsBox (w3.alloc (.cells #[.slice a3 l3 c3, .int .i64 (dB.length : Int)] 24)) w3.heap.size a3 l3 c3 (dB.length : Int) := World.alloc_heap_new _ _
  have x0 := x0.below ((Below.refl w3.heap.size w3).alloc (Nat.le_refl _) (.cells #[.slice a3 l3 c3, .int .i64 (dB.length : Int)] 24))
  have x1 := x1.below ((Below.refl w3.heap.size w3).alloc (Nat.le_refl _) (.cells #[.slice a3 l3 c3, .int .i64 (dB.length : Int)] 24))
  have x2 := x2.below ((Below.refl w3.heap.size w3).alloc (Nat.le_refl _) (.cells #[.slice a3 l3 c3, .int .i64 (dB.length : Int)] 24))
  have y0 := y0.mono ((Below.refl w3.heap.size w3).alloc (Nat.le_refl _) (.cells #[.slice a3 l3 c3, .int .i64 (dB.length : Int)] 24))
  have y1 := y1.mono ((Below.refl w3.heap.size w3).alloc (Nat.le_refl _) (.cells #[.slice a3 l3 c3, .int .i64 (dB.length : Int)] 24))
  have y2 := y2.mono ((Below.refl w3.heap.size w3).alloc (Nat.le_refl _) (.cells #[.slice a3 l3 c3, .int .i64 (dB.length : Int)] 24))
  have y3 := y3.mono ((Below.refl w3.heap.size w3).alloc (Nat.le_refl _) (.cells #[.slice a3 l3 c3, .int .i64 (dB.length : Int)] 24))
  have Bel := below_new Bel (.cells #[.slice a3 l3 c3, .int .i64 (dB.length : Int)] 24)
  have x0_0 := x0.cell0
  have x0_1 := x0.cell1
  have x1_0 := x1.cell0
  have x1_1 := x1.cell1
  have x2_0 := x2.cell0
  have x2_1 := x2.cell1
  have x3_0 := x3.cell0
  have x3_1 := x3.cell1
  go_wp2_with fail
  refine (wide_any _ hi (by omega)).mono ?_
  rintro e ww ⟨rfl, rfl⟩
  rw [HK.out]
  go_wp2_with fail
  refine (put_any _ a0 l0 c0 bs hbs (by omega) hi (by omega) ((0 : Nat) : Int) y0 _ _ HP4.out N HN.out).mono ?_
  rintro e w4 ⟨a4, l4, c4, rfl, y4, b4⟩
  have x0 := x0.below b4
  have x1 := x1.below b4
  have x2 := x2.below b4
  have x3 := x3.below b4
  have y0 := y0.mono b4
  have y1 := y1.mono b4
  have y2 := y2.mono b4
  have y3 := y3.mono b4
  have Bel := below_then Bel b4
  have x4 : BitsBox (w4.alloc (.cells #[.slice a4 l4 c4, .int .i64 (dD.length : Int)] 24)) w4.heap.size a4 l4 c4 (dD.length : Int) := World.alloc_heap_new _ _
  have x0 := x0.below ((Below.refl w4.heap.size w4).alloc (Nat.le_refl _) (.cells #[.slice a4 l4 c4, .int .i64 (dD.length : Int)] 24))
  have x1 := x1.below ((Below.refl w4.heap.size w4).alloc (Nat.le_refl _) (.cells #[.slice a4 l4 c4, .int .i64 (dD.length : Int)] 24))
  have x2 := x2.below ((Below.refl w4.heap.size w4).alloc (Nat.le_refl _) (.cells #[.slice a4 l4 c4, .int .i64 (dD.length : Int)] 24))
  have x3 := x3.below ((Below.refl w4.heap.size w4).alloc (Nat.le_refl _) (.cells #[.slice a4 l4 c4, .int .i64 (dD.length : Int)] 24))
  have y0 := y0.mono ((Below.refl w4.heap.size w4).alloc (Nat.le_refl _) (.cells #[.slice a4 l4 c4, .int .i64 (dD.length : Int)] 24))
  have y1 := y1.mono ((Below.refl w4.heap.size w4).alloc (Nat.le_refl _) (.cells #[.slice a4 l4 c4, .int .i64 (dD.length : Int)] 24))
  have y2 := y2.mono ((Below.refl w4.heap.size w4).alloc (Nat.le_refl _) (.cells #[.slice a4 l4 c4, .int .i64 (dD.length : Int)] 24))
  have y3 := y3.mono ((Below.refl w4.heap.size w4).alloc (Nat.le_refl _) (.cells #[.slice a4 l4 c4, .int .i64 (dD.length : Int)] 24))
  have y4 := y4.mono ((Below.refl w4.heap.size w4).alloc (Nat.le_refl _) (.cells #[.slice a4 l4 c4, .int .i64 (dD.length : Int)] 24))
  have Bel := below_new Bel (.cells #[.slice a4 l4 c4, .int .i64 (dD.length : Int)] 24)
  have x0_0 := x0.cell0
  have x0_1 := x0.cell1
  have x1_0 := x1.cell0
  have x1_1 := x1.cell1
  have x2_0 := x2.cell0
  have x2_1 := x2.cell1
  have x3_0 := x3.cell0
  have x3_1 := x3.cell1
  go_wp2_with fail
  refine (put_any _ a0 l0 c0 bs hbs (by omega) hi (by omega) (((0 : Nat) : Int) - 1) y0 _ _ HP5.out N HN.out).mono ?_
  rintro e w5 ⟨a5, l5, c5, rfl, y5, b5⟩
  have x0 := x0.below b5
  have x1 := x1.below b5
  have x2 := x2.below b5
  have x3 := x3.below b5
  have y0 := y0.mono b5
  have y1 := y1.mono b5
  have y2 := y2.mono b5
  have y3 := y3.mono b5
  have Bel := below_then Bel b5
  have x5 : BitsBox (w5.alloc (.cells #[.slice a5 l5 c5, .int .i64 (dE.length : Int)] 24)) w5.heap.size a5 l5 c5 (dE.length : Int) := World.alloc_heap_new _ _
  have x0 := x0.below ((Below.refl w5.heap.size w5).alloc (Nat.le_refl _) (.cells #[.slice a5 l5 c5, .int .i64 (dE.length : Int)] 24))
  have x1 := x1.below ((Below.refl w5.heap.size w5).alloc (Nat.le_refl _) (.cells #[.slice a5 l5 c5, .int .i64 (dE.length : Int)] 24))
  have x2 := x2.below ((Below.refl w5.heap.size w5).alloc (Nat.le_refl _) (.cells #[.slice a5 l5 c5, .int .i64 (dE.length : Int)] 24))
  have x3 := x3.below ((Below.refl w5.heap.size w5).alloc (Nat.le_refl _) (.cells #[.slice a5 l5 c5, .int .i64 (dE.length : Int)] 24))
  have y0 := y0.mono ((Below.refl w5.heap.size w5).alloc (Nat.le_refl _) (.cells #[.slice a5 l5 c5, .int .i64 (dE.length : Int)] 24))
  have y1 := y1.mono ((Below.refl w5.heap.size w5).alloc (Nat.le_refl _) (.cells #[.slice a5 l5 c5, .int .i64 (dE.length : Int)] 24))
  have y2 := y2.mono ((Below.refl w5.heap.size w5).alloc (Nat.le_refl _) (.cells #[.slice a5 l5 c5, .int .i64 (dE.length : Int)] 24))
  have y3 := y3.mono ((Below.refl w5.heap.size w5).alloc (Nat.le_refl _) (.cells #[.slice a5 l5 c5, .int .i64 (dE.length : Int)] 24))
  have y5 := y5.mono ((Below.refl w5.heap.size w5).alloc (Nat.le_refl _) (.cells #[.slice a5 l5 c5, .int .i64 (dE.length : Int)] 24))
  have Bel := below_new Bel (.cells #[.slice a5 l5 c5, .int .i64 (dE.length : Int)] 24)
  have x0_0 := x0.cell0
  have x0_1 := x0.cell1
  have x1_0 := x1.cell0
  have x1_1 := x1.cell1
  have x2_0 := x2.cell0
  have x2_1 := x2.cell1
  have x3_0 := x3.cell0
  have x3_1 := x3.cell1
  go_wp2_with fail
  refine (refsame_same y2 y3).mono ?_
  rintro e w9 ⟨rfl, b9⟩
  go_wp2
  go_ret
  exact ⟨rfl, below_then Bel b9⟩
set_option maxHeartbeats 2000000 in
theorem bitsparts_many (w : World) (a0 : Option Addr) (l0 c0 : Nat) (l : List Nat) (N : Int) (hi lo : Nat) (hhi : hi < 4294967296) (hlo : lo < 4294967296) (hN1 : -9223372036854775808 ≤ N) (hN2 : N ≤ 9223372036854775807) (hy : BytesAt w a0 l0 c0 l) (hfew : ¬ l0 ≤ 100) :
    Calls Try.prog 6 #[.agg #[.slice a0 l0 c0, .int .i64 N], .int .u32 (hi : Int), .int .u32 (lo : Int)] w fun e w' => e = .returned (.bool true) ∧ Below w.heap.size w w' := by
  have hsm := hy.small
  have d1 : decide (l0 ≤ 100) = false := by simpa using hfew
  have x0 : BitsBox (w.alloc (.cells #[.slice a0 l0 c0, .int .i64 N] 24)) w.heap.size a0 l0 c0 N := World.alloc_heap_new _ _
  have y0 := hy.mono ((Below.refl w.heap.size w).alloc (Nat.le_refl _) (.cells #[.slice a0 l0 c0, .int .i64 N] 24))
  go_enter Try.func6, Try.ntmps6
  go_wp2_with fail
  refine (shown_any _).mono ?_
  rintro e ws ⟨rfl, bs1⟩
  have x0 := x0.below bs1
  have y0 := y0.mono bs1
  have Bel := below_then ((Below.refl w.heap.size w).alloc (Nat.le_refl _) (.cells #[.slice a0 l0 c0, .int .i64 N] 24)) bs1
  have x0_0 := x0.cell0
  have x0_1 := x0.cell1
  go_wp2_with fail
  refine (few_any _ a0 l0 c0 N hsm).mono ?_
  rintro e wf ⟨rfl, bf1⟩
  have x0 := x0.below bf1
  have y0 := y0.mono bf1
  have Bel := below_then Bel bf1
  have x0_0 := x0.cell0
  have x0_1 := x0.cell1
  rw [d1]
  go_wp2
  go_ret
  exact ⟨rfl, Bel⟩
set_option maxHeartbeats 2000000 in
theorem bitsparts_wrong (w : World) (a0 : Option Addr) (l0 c0 : Nat) (l : List Nat) (N : Int) (hi lo : Nat) (hhi : hi < 4294967296) (hlo : lo < 4294967296) (hN1 : -9223372036854775808 ≤ N) (hN2 : N ≤ 9223372036854775807) (hy : BytesAt w a0 l0 c0 l) (hfew : l0 ≤ 100) (hr : ¬ RightI l N) :
    Calls Try.prog 6 #[.agg #[.slice a0 l0 c0, .int .i64 N], .int .u32 (hi : Int), .int .u32 (lo : Int)] w fun e w' => e = .returned (.bool true) ∧ Below w.heap.size w w' := by
  have hsm := hy.small
  have d1 : decide (l0 ≤ 100) = true := by simpa using hfew
  have hright : decide (RightI l N) = false := by simpa using hr
  have HR := Lib.hid hright
  clear hright hr
  have x0 : BitsBox (w.alloc (.cells #[.slice a0 l0 c0, .int .i64 N] 24)) w.heap.size a0 l0 c0 N := World.alloc_heap_new _ _
  have y0 := hy.mono ((Below.refl w.heap.size w).alloc (Nat.le_refl _) (.cells #[.slice a0 l0 c0, .int .i64 N] 24))
  go_enter Try.func6, Try.ntmps6
  go_wp2_with fail
  refine (shown_any _).mono ?_
  rintro e ws ⟨rfl, bs1⟩
  have x0 := x0.below bs1
  have y0 := y0.mono bs1
  have Bel := below_then ((Below.refl w.heap.size w).alloc (Nat.le_refl _) (.cells #[.slice a0 l0 c0, .int .i64 N] 24)) bs1
  have x0_0 := x0.cell0
  have x0_1 := x0.cell1
  go_wp2_with fail
  refine (few_any _ a0 l0 c0 N hsm).mono ?_
  rintro e wf ⟨rfl, bf1⟩
  have x0 := x0.below bf1
  have y0 := y0.mono bf1
  have Bel := below_then Bel bf1
  have x0_0 := x0.cell0
  have x0_1 := x0.cell1
  rw [d1]
  go_wp2_with fail
  refine (refright_any _ a0 l0 c0 l N hN1 hN2 (by omega) y0).mono ?_
  rintro e wr ⟨rfl, br1⟩
  have x0 := x0.below br1
  have y0 := y0.mono br1
  have Bel := below_then Bel br1
  have x0_0 := x0.cell0
  have x0_1 := x0.cell1
  rw [HR.out]
  go_wp2
  go_ret
  exact ⟨rfl, Bel⟩
theorem digs_join (h l m : Nat) : ∀ k, l < 2 ^ k → digs (h * 2 ^ k + l) (m + k) = digs h m ++ digs l k := by
  intro k
  induction k generalizing l with
  | zero => intro hl; simp at hl; subst hl; simp [digs_zero]
  | succ k ih =>
    intro hl
    rw [Nat.pow_succ] at hl
    rw [← Nat.add_assoc, digs_snoc, digs_snoc l k, ← List.append_assoc, ← ih (l / 2) (by omega), Nat.pow_succ]
    congr 2
    · rw [show h * (2 ^ k * 2) + l = h * 2 ^ k * 2 + l from by rw [Nat.mul_assoc]]; omega
    · rw [show h * (2 ^ k * 2) + l = h * 2 ^ k * 2 + l from by rw [Nat.mul_assoc]]; omega
theorem right_bits {l : List Nat} {N : Int} (hb : ∀ n ∈ l, n < 256) (h : RightI l N) : ∃ bs, IsBits bs ∧ l = pack bs ∧ N = (bs.length : Int) :=
  ⟨unpack l N.toNat, unpack_bits _ _, (pack_unpack hb h.2).symm, by rw [unpack_length]; have := h.1; omega⟩
theorem putS_ok (bs : List Nat) (n k : Nat) (hk : k ≤ 64) (h : Lib.bitLen n ≤ k) : putS bs n (k : Int) = (bs ++ digs n k, 0) := by
  unfold putS
  rw [if_neg (by omega), if_neg (by omega), Int.toNat_natCast]
theorem bitsparts_any (w : World) (a0 : Option Addr) (l0 c0 : Nat) (l : List Nat) (N : Int) (hi lo : Nat) (hhi : hi < 4294967296) (hlo : lo < 4294967296) (hN1 : -9223372036854775808 ≤ N) (hN2 : N ≤ 9223372036854775807) (hy : BytesAt w a0 l0 c0 l) :
    Calls Try.prog 6 #[.agg #[.slice a0 l0 c0, .int .i64 N], .int .u32 (hi : Int), .int .u32 (lo : Int)] w fun e w' => e = .returned (.bool true) ∧ Below w.heap.size w w' := by
  by_cases hfew : l0 ≤ 100
  case neg => exact bitsparts_many w a0 l0 c0 l N hi lo hhi hlo hN1 hN2 hy hfew
  by_cases hr : RightI l N
  case neg => exact bitsparts_wrong w a0 l0 c0 l N hi lo hhi hlo hN1 hN2 hy hfew hr
  obtain ⟨bs, hbs, rfl, hN⟩ := right_bits hy.byte hr
  have hlen := hy.len_eq
  rw [pack_length] at hlen
  have e32 : ∀ n, n < 4294967296 → Lib.bitLen n ≤ 32 := fun n hn => Lib.bitLen_le n 32 (by omega) (by simpa using hn)
  have h1 : putS bs hi 32 = (bs ++ digs hi 32, 0) := putS_ok bs hi 32 (by omega) (e32 hi hhi)
  have h2 : putS (bs ++ digs hi 32) lo 32 = (bs ++ digs hi 32 ++ digs lo 32, 0) := putS_ok _ lo 32 (by omega) (e32 lo hlo)
  obtain ⟨G, hG⟩ : ∃ G, G = hi * 4294967296 + lo := ⟨_, rfl⟩
  have h3 : putS bs G 64 = (bs ++ digs hi 32 ++ digs lo 32, 0) := by
    have := putS_ok bs G 64 (by omega) (Lib.bitLen_le G 64 (by omega) (by omega))
    rw [List.append_assoc, ← digs_join hi lo 32 32 (by simpa using hlo)]
    rw [show hi * 2 ^ 32 + lo = G from by rw [hG]]
    exact this
  obtain ⟨k, hk⟩ : ∃ k, Lib.bitLen hi = k := ⟨_, rfl⟩
  have hk64 := e32 hi hhi
  have h4 : putS bs hi (k : Int) = (bs ++ digs hi k, 0) := putS_ok bs hi k (by omega) (by omega)
  have hA := hbs.append (digs_bits hi 32)
  have l1 : (bs ++ digs hi 32).length ≤ 2000 := by rw [List.length_append, digs_length]; omega
  have l2 : (bs ++ digs hi 32 ++ digs lo 32).length ≤ 9000 := by rw [List.length_append, List.length_append, digs_length, digs_length]; omega
  by_cases hk0 : k = 0
  · have h5 : putS bs hi ((k : Int) - 1) = (bs, 1) := by
      unfold putS; rw [if_pos (by omega)]
    exact bitsparts_zero w a0 l0 c0 bs hbs (by omega) hfew N hN hi lo G k hhi hlo hG hk hk0 hy _ _ _ _ hA l1 l2 h1 h2 h3 h4 h5
  · have h5 : putS bs hi ((k : Int) - 1) = (bs, 5) := by
      unfold putS; rw [if_neg (by omega), if_pos (by omega)]
    exact bitsparts_pos w a0 l0 c0 bs hbs (by omega) hfew N hN hi lo G k hhi hlo hG hk (by omega) hy _ _ _ _ hA l1 l2 h1 h2 h3 h4 h5
end Go.Proofs.Yticbbldlhbooeaa
