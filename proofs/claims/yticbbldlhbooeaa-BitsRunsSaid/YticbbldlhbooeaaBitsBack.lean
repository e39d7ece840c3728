/- BitsBack returns true. -/
import Derived.Test.YticbbldlhbooeaaBitsHead
import Derived.Test.YticbbldlhbooeaaBitsWide
import Derived.Test.YticbbldlhbooeaaBitsRef6
import Derived.Test.YticbbldlhbooeaaBitsParts
import Derived.Test.YticbbldlhbooeaaBitsOrder
namespace Go.Proofs.Yticbbldlhbooeaa
open Go.RowKit
set_option linter.unusedVariables false

theorem refsame_eq {w : World} {a b : Option Addr} {l c l' c' : Nat} {N N' : Int} (hN : N = N') {bs : List Nat} (h : BytesAt w a l c bs) (h' : BytesAt w b l' c' bs) : Calls Try.prog 15 #[.agg #[.slice a l c, .int .i64 N], .agg #[.slice b l' c', .int .i64 N']] w fun e w' => e = .returned (.bool true) ∧ Below w.heap.size w w' := by
  subst hN
  exact refsame_same h h'
theorem cut_here (bs ds r : List Nat) : cutBits (bs ++ ds ++ r) bs.length ds.length = ds := by unfold cutBits; simp
theorem takeS_at (bs : List Nat) (at_ k : Nat) (hk : k ≤ 64) (h : at_ + k ≤ bs.length) : takeS bs (at_ : Int) (k : Int) = (valOf (cutBits bs at_ k), 0) := by
  unfold takeS
  rw [if_neg (by omega), if_neg (by omega), Int.toNat_natCast, Int.toNat_natCast]
theorem takeS_mid (bs r : List Nat) (n k : Nat) (hk : k ≤ 64) (hn : n < 2 ^ k) : takeS (bs ++ digs n k ++ r) (bs.length : Int) (k : Int) = (n, 0) := by
  rw [takeS_at _ _ _ hk (by simp [digs_length])]
  have := cut_here bs (digs n k) r
  rw [digs_length] at this
  rw [this, valOf_digs k n hn]
theorem putS_cases (bs : List Nat) (n : Nat) (wide : Int) : (∃ e, putS bs n wide = (bs, e) ∧ (e = 1 ∨ e = 5)) ∨ (∃ k : Nat, wide = (k : Int) ∧ k ≤ 64 ∧ Lib.bitLen n ≤ k ∧ putS bs n wide = (bs ++ digs n k, 0)) := by
  unfold putS
  by_cases h1 : wide < 0 ∨ 64 < wide
  · rw [if_pos h1]; exact .inl ⟨1, rfl, .inl rfl⟩
  · rw [if_neg h1]
    by_cases h2 : wide < (Lib.bitLen n : Int)
    · rw [if_pos h2]; exact .inl ⟨5, rfl, .inr rfl⟩
    · rw [if_neg h2]
      obtain ⟨k, rfl⟩ := Int.eq_ofNat_of_zero_le (show 0 ≤ wide by omega)
      exact .inr ⟨k, rfl, by omega, by omega, by rw [Int.toNat_natCast]⟩
set_option maxHeartbeats 8000000 in
theorem bitsback_many (w : World) (a0 : Option Addr) (l0 c0 : Nat) (l : List Nat) (N : Int) (n : Nat) (wide : Int) (m more : Nat) (hn : n < 18446744073709551616) (hm : m < 18446744073709551616) (hmore : more < 256) (hw1 : -9223372036854775808 ≤ wide) (hw2 : wide ≤ 9223372036854775807) (hN1 : -9223372036854775808 ≤ N) (hN2 : N ≤ 9223372036854775807) (hy : BytesAt w a0 l0 c0 l) (hfew : ¬ l0 ≤ 100) :
    Calls Try.prog 4 #[.agg #[.slice a0 l0 c0, .int .i64 N, .int .u64 (n : Int), .int .i64 wide, .int .u64 (m : Int), .int .u8 (more : Int)]] w fun e w' => e = .returned (.bool true) ∧ Below w.heap.size w w' := by
  have hsm0 := hy.small
  have d1 : decide (l0 ≤ 100) = false := by simpa using hfew
  have b0 : Below w.heap.size w ((w.alloc (.cells #[.slice a0 l0 c0, .int .i64 N, .int .u64 (n : Int), .int .i64 wide, .int .u64 (m : Int), .int .u8 (more : Int)] 44)).alloc (.cells #[.slice a0 l0 c0, .int .i64 N] 24)) := ((Below.refl _ _).alloc (Nat.le_refl _) _).alloc (by simp) _
  have x0 : BitsBox ((w.alloc (.cells #[.slice a0 l0 c0, .int .i64 N, .int .u64 (n : Int), .int .i64 wide, .int .u64 (m : Int), .int .u8 (more : Int)] 44)).alloc (.cells #[.slice a0 l0 c0, .int .i64 N] 24)) (w.heap.size + 1) a0 l0 c0 N := by
    have := World.alloc_heap_new (w.alloc (.cells #[.slice a0 l0 c0, .int .i64 N, .int .u64 (n : Int), .int .i64 wide, .int .u64 (m : Int), .int .u8 (more : Int)] 44)) (.cells #[.slice a0 l0 c0, .int .i64 N] 24)
    rw [show (w.alloc (.cells #[.slice a0 l0 c0, .int .i64 N, .int .u64 (n : Int), .int .i64 wide, .int .u64 (m : Int), .int .u8 (more : Int)] 44)).heap.size = w.heap.size + 1 from by simp] at this
    exact this
  have y0 := hy.mono b0
  go_enter Try.func4, Try.ntmps4
  go_wp2_with fail
  refine (shown_any _).mono ?_
  rintro e ws ⟨rfl, bs1⟩
  have x0 := x0.below bs1
  have y0 := y0.mono bs1
  have Bel := below_then b0 bs1
  have x0_0 := x0.cell0
  have x0_1 := x0.cell1
  go_wp2_with fail
  refine (few_any _ a0 l0 c0 N hsm0).mono ?_
  rintro e wf ⟨rfl, bf1⟩
  have x0 := x0.below bf1
  have y0 := y0.mono bf1
  have Bel := below_then Bel bf1
  have x0_0 := x0.cell0
  have x0_1 := x0.cell1
  rw [d1]
  go_wp2
  go_ret
  exact ⟨rfl, Bel⟩
set_option maxHeartbeats 8000000 in
theorem bitsback_wrong (w : World) (a0 : Option Addr) (l0 c0 : Nat) (l : List Nat) (N : Int) (n : Nat) (wide : Int) (m more : Nat) (hn : n < 18446744073709551616) (hm : m < 18446744073709551616) (hmore : more < 256) (hw1 : -9223372036854775808 ≤ wide) (hw2 : wide ≤ 9223372036854775807) (hN1 : -9223372036854775808 ≤ N) (hN2 : N ≤ 9223372036854775807) (hy : BytesAt w a0 l0 c0 l) (hfew : l0 ≤ 100) (hr : ¬ RightI l N) :
    Calls Try.prog 4 #[.agg #[.slice a0 l0 c0, .int .i64 N, .int .u64 (n : Int), .int .i64 wide, .int .u64 (m : Int), .int .u8 (more : Int)]] w fun e w' => e = .returned (.bool true) ∧ Below w.heap.size w w' := by
  have hsm0 := hy.small
  have d1 : decide (l0 ≤ 100) = true := by simpa using hfew
  have hright : decide (RightI l N) = false := by simpa using hr
  have HR := Lib.hid hright
  clear hright hr
  have b0 : Below w.heap.size w ((w.alloc (.cells #[.slice a0 l0 c0, .int .i64 N, .int .u64 (n : Int), .int .i64 wide, .int .u64 (m : Int), .int .u8 (more : Int)] 44)).alloc (.cells #[.slice a0 l0 c0, .int .i64 N] 24)) := ((Below.refl _ _).alloc (Nat.le_refl _) _).alloc (by simp) _
  have x0 : BitsBox ((w.alloc (.cells #[.slice a0 l0 c0, .int .i64 N, .int .u64 (n : Int), .int .i64 wide, .int .u64 (m : Int), .int .u8 (more : Int)] 44)).alloc (.cells #[.slice a0 l0 c0, .int .i64 N] 24)) (w.heap.size + 1) a0 l0 c0 N := by
    have := World.alloc_heap_new (w.alloc (.cells #[.slice a0 l0 c0, .int .i64 N, .int .u64 (n : Int), .int .i64 wide, .int .u64 (m : Int), .int .u8 (more : Int)] 44)) (.cells #[.slice a0 l0 c0, .int .i64 N] 24)
    rw [show (w.alloc (.cells #[.slice a0 l0 c0, .int .i64 N, .int .u64 (n : Int), .int .i64 wide, .int .u64 (m : Int), .int .u8 (more : Int)] 44)).heap.size = w.heap.size + 1 from by simp] at this
    exact this
  have y0 := hy.mono b0
  go_enter Try.func4, Try.ntmps4
  go_wp2_with fail
  refine (shown_any _).mono ?_
  rintro e ws ⟨rfl, bs1⟩
  have x0 := x0.below bs1
  have y0 := y0.mono bs1
  have Bel := below_then b0 bs1
  have x0_0 := x0.cell0
  have x0_1 := x0.cell1
  go_wp2_with fail
  refine (few_any _ a0 l0 c0 N hsm0).mono ?_
  rintro e wf ⟨rfl, bf1⟩
  have x0 := x0.below bf1
  have y0 := y0.mono bf1
  have Bel := below_then Bel bf1
  have x0_0 := x0.cell0
  have x0_1 := x0.cell1
  rw [d1]
  go_wp2_with fail
  refine (refright_any _ a0 l0 c0 l N hN1 hN2 (by omega) y0).mono ?_
  rintro e wr ⟨rfl, br1⟩
  have x0 := x0.below br1
  have y0 := y0.mono br1
  have Bel := below_then Bel br1
  have x0_0 := x0.cell0
  have x0_1 := x0.cell1
  rw [HR.out]
  go_wp2
  go_ret
  exact ⟨rfl, Bel⟩
set_option maxHeartbeats 8000000 in
theorem bitsback_refused (w : World) (a0 : Option Addr) (l0 c0 : Nat) (l : List Nat) (N : Int) (n : Nat) (wide : Int) (m more : Nat) (hn : n < 18446744073709551616) (hm : m < 18446744073709551616) (hmore : more < 256) (hw1 : -9223372036854775808 ≤ wide) (hw2 : wide ≤ 9223372036854775807) (hN1 : -9223372036854775808 ≤ N) (hN2 : N ≤ 9223372036854775807) (hy : BytesAt w a0 l0 c0 l) (hfew : l0 ≤ 100) (hr : RightI l N) (bs : List Nat) (hbs : IsBits bs) (hlb : l = pack bs) (hsm : bs.length ≤ 1000) (hNb : N = (bs.length : Int)) (e1 : Int) (he1 : (e1 != 0) = true) (h1 : putS bs n wide = (bs, e1)) :
    Calls Try.prog 4 #[.agg #[.slice a0 l0 c0, .int .i64 N, .int .u64 (n : Int), .int .i64 wide, .int .u64 (m : Int), .int .u8 (more : Int)]] w fun e w' => e = .returned (.bool true) ∧ Below w.heap.size w w' := by
  have hsm0 := hy.small
  have d1 : decide (l0 ≤ 100) = true := by simpa using hfew
  have hright : decide (RightI l N) = true := by simpa using hr
  have HR := Lib.hid hright
  clear hright hr
  subst hlb
  have HN := Lib.hid hNb
  have HP1 := Lib.hid h1
  have hN3 : 0 ≤ N := by omega
  have hN4 : N ≤ 1000 := by omega
  clear h1 hNb
  have b0 : Below w.heap.size w ((w.alloc (.cells #[.slice a0 l0 c0, .int .i64 N, .int .u64 (n : Int), .int .i64 wide, .int .u64 (m : Int), .int .u8 (more : Int)] 44)).alloc (.cells #[.slice a0 l0 c0, .int .i64 N] 24)) := ((Below.refl _ _).alloc (Nat.le_refl _) _).alloc (by simp) _
  have x0 : BitsBox ((w.alloc (.cells #[.slice a0 l0 c0, .int .i64 N, .int .u64 (n : Int), .int .i64 wide, .int .u64 (m : Int), .int .u8 (more : Int)] 44)).alloc (.cells #[.slice a0 l0 c0, .int .i64 N] 24)) (w.heap.size + 1) a0 l0 c0 N := by
    have := World.alloc_heap_new (w.alloc (.cells #[.slice a0 l0 c0, .int .i64 N, .int .u64 (n : Int), .int .i64 wide, .int .u64 (m : Int), .int .u8 (more : Int)] 44)) (.cells #[.slice a0 l0 c0, .int .i64 N] 24)
    rw [show (w.alloc (.cells #[.slice a0 l0 c0, .int .i64 N, .int .u64 (n : Int), .int .i64 wide, .int .u64 (m : Int), .int .u8 (more : Int)] 44)).heap.size = w.heap.size + 1 from by simp] at this
    exact this
  have y0 := hy.mono b0
  go_enter Try.func4, Try.ntmps4
  go_wp2_with fail
  refine (shown_any _).mono ?_
  rintro e ws ⟨rfl, bs1⟩
  have x0 := x0.below bs1
  have y0 := y0.mono bs1
  have Bel := below_then b0 bs1
  have x0_0 := x0.cell0
  have x0_1 := x0.cell1
  go_wp2_with fail
  refine (few_any _ a0 l0 c0 N hsm0).mono ?_
  rintro e wf ⟨rfl, bf1⟩
  have x0 := x0.below bf1
  have y0 := y0.mono bf1
  have Bel := below_then Bel bf1
  have x0_0 := x0.cell0
  have x0_1 := x0.cell1
  rw [d1]
  go_wp2_with fail
  refine (refright_any _ a0 l0 c0 (pack bs) N hN1 hN2 (by omega) y0).mono ?_
  rintro e wr ⟨rfl, br1⟩
  have x0 := x0.below br1
  have y0 := y0.mono br1
  have Bel := below_then Bel br1
  have x0_0 := x0.cell0
  have x0_1 := x0.cell1
  rw [HR.out]
  go_wp2_with fail
  refine (put_any _ a0 l0 c0 bs hbs (by omega) n hn wide y0 _ _ HP1.out N HN.out).mono ?_
  rintro e w1 ⟨a1, l1, c1, rfl, y1, b1⟩
  have x0 := x0.below b1
  have y0 := y0.mono b1
  have Bel := below_then Bel b1
  have x1 : BitsBox (w1.alloc (.cells #[.slice a1 l1 c1, .int .i64 (bs.length : Int)] 24)) w1.heap.size a1 l1 c1 (bs.length : Int) := World.alloc_heap_new _ _
  have x0 := x0.below ((Below.refl w1.heap.size w1).alloc (Nat.le_refl _) (.cells #[.slice a1 l1 c1, .int .i64 (bs.length : Int)] 24))
  have y0 := y0.mono ((Below.refl w1.heap.size w1).alloc (Nat.le_refl _) (.cells #[.slice a1 l1 c1, .int .i64 (bs.length : Int)] 24))
  have y1 := y1.mono ((Below.refl w1.heap.size w1).alloc (Nat.le_refl _) (.cells #[.slice a1 l1 c1, .int .i64 (bs.length : Int)] 24))
  have Bel := below_new Bel (.cells #[.slice a1 l1 c1, .int .i64 (bs.length : Int)] 24)
  have x0_0 := x0.cell0
  have x0_1 := x0.cell1
  have x1_0 := x1.cell0
  have x1_1 := x1.cell1
  have HR3 := HR.out
  rw [HN.out] at HR3
  go_wp2_with fail
  refine (refright_any _ a1 l1 c1 (pack bs) (bs.length : Int) (by omega) (by omega) (by have := y1.len_eq; rw [pack_length] at this; omega) y1).mono ?_
  rintro e wq ⟨rfl, bq⟩
  have x0 := x0.below bq
  have x1 := x1.below bq
  have y0 := y0.mono bq
  have y1 := y1.mono bq
  have Bel := below_then Bel bq
  have x0_0 := x0.cell0
  have x0_1 := x0.cell1
  have x1_0 := x1.cell0
  have x1_1 := x1.cell1
  rw [HR3]
  go_wp2_with fail
  refine (refsame_eq HN.out.symm y1 y0).mono ?_
  rintro e wz ⟨rfl, bz⟩
  have x0 := x0.below bz
  have x1 := x1.below bz
  have y0 := y0.mono bz
  have y1 := y1.mono bz
  have Bel := below_then Bel bz
  have x0_0 := x0.cell0
  have x0_1 := x0.cell1
  have x1_0 := x1.cell0
  have x1_1 := x1.cell1
  go_wp2
  go_ret
  exact ⟨rfl, Bel⟩
set_option maxHeartbeats 8000000 in
theorem bitsback_ok0 (w : World) (a0 : Option Addr) (l0 c0 : Nat) (l : List Nat) (N : Int) (n : Nat) (wide : Int) (m more : Nat) (hn : n < 18446744073709551616) (hm : m < 18446744073709551616) (hmore : more < 256) (hw1 : -9223372036854775808 ≤ wide) (hw2 : wide ≤ 9223372036854775807) (hN1 : -9223372036854775808 ≤ N) (hN2 : N ≤ 9223372036854775807) (hy : BytesAt w a0 l0 c0 l) (hfew : l0 ≤ 100) (hr : RightI l N) (bs : List Nat) (hbs : IsBits bs) (hlb : l = pack bs) (hsm : bs.length ≤ 1000) (hNb : N = (bs.length : Int)) (dA dB : List Nat) (hA : IsBits dA) (hB : IsBits dB) (hAl : dA.length ≤ 2000) (hBl : dB.length ≤ 3000) (h1 : putS bs n wide = (dA, 0)) (hwd0 : 0 ≤ wide) (hwd : wide ≤ 64) (K2 : Nat) (hK2 : (more : Int) % 65 = (K2 : Int)) (hAN : N + wide = (dA.length : Int)) (ht1 : takeS dB N wide = (n, 0)) (h2 : putS dA m (K2 : Int) = (dB, 0)) (ht2 : takeS dB (dA.length : Int) (K2 : Int) = (m, 0)) (hBN : (dA.length : Int) + (K2 : Int) = (dB.length : Int)) :
    Calls Try.prog 4 #[.agg #[.slice a0 l0 c0, .int .i64 N, .int .u64 (n : Int), .int .i64 wide, .int .u64 (m : Int), .int .u8 (more : Int)]] w fun e w' => e = .returned (.bool true) ∧ Below w.heap.size w w' := by
  have hsm0 := hy.small
  have d1 : decide (l0 ≤ 100) = true := by simpa using hfew
  have hright : decide (RightI l N) = true := by simpa using hr
  have HR := Lib.hid hright
  clear hright hr
  subst hlb
  have HN := Lib.hid hNb
  have HP1 := Lib.hid h1
  have hN3 : 0 ≤ N := by omega
  have hN4 : N ≤ 1000 := by omega
  have HP2 := Lib.hid h2
  have HT1 := Lib.hid ht1
  have HT2 := Lib.hid ht2
  have hK64 : K2 ≤ 64 := by omega
  have hright2 : decide (RightI (pack dA) (dA.length : Int)) = true := by
    rw [decide_eq_true_iff]
    exact ⟨by omega, by rw [Int.toNat_natCast]; exact pack_right hA⟩
  have HR2 := Lib.hid hright2
  clear h2 ht1 ht2 hright2
  clear h1 hNb
  have b0 : Below w.heap.size w ((w.alloc (.cells #[.slice a0 l0 c0, .int .i64 N, .int .u64 (n : Int), .int .i64 wide, .int .u64 (m : Int), .int .u8 (more : Int)] 44)).alloc (.cells #[.slice a0 l0 c0, .int .i64 N] 24)) := ((Below.refl _ _).alloc (Nat.le_refl _) _).alloc (by simp) _
  have x0 : BitsBox ((w.alloc (.cells #[.slice a0 l0 c0, .int .i64 N, .int .u64 (n : Int), .int .i64 wide, .int .u64 (m : Int), .int .u8 (more : Int)] 44)).alloc (.cells #[.slice a0 l0 c0, .int .i64 N] 24)) (w.heap.size + 1) a0 l0 c0 N := by
    have := World.alloc_heap_new (w.alloc (.cells #[.slice a0 l0 c0, .int .i64 N, .int .u64 (n : Int), .int .i64 wide, .int .u64 (m : Int), .int .u8 (more : Int)] 44)) (.cells #[.slice a0 l0 c0, .int .i64 N] 24)
    rw [show (w.alloc (.cells #[.slice a0 l0 c0, .int .i64 N, .int .u64 (n : Int), .int .i64 wide, .int .u64 (m : Int), .int .u8 (more : Int)] 44)).heap.size = w.heap.size + 1 from by simp] at this
    exact this
  have y0 := hy.mono b0
  go_enter Try.func4, Try.ntmps4
  go_wp2_with fail
  refine (shown_any _).mono ?_
  rintro e ws ⟨rfl, bs1⟩
  have x0 := x0.below bs1
  have y0 := y0.mono bs1
  have Bel := below_then b0 bs1
  have x0_0 := x0.cell0
  have x0_1 := x0.cell1
  go_wp2_with fail
  refine (few_any _ a0 l0 c0 N hsm0).mono ?_
  rintro e wf ⟨rfl, bf1⟩
  have x0 := x0.below bf1
  have y0 := y0.mono bf1
  have Bel := below_then Bel bf1
  have x0_0 := x0.cell0
  have x0_1 := x0.cell1
  rw [d1]
  go_wp2_with fail
  refine (refright_any _ a0 l0 c0 (pack bs) N hN1 hN2 (by omega) y0).mono ?_
  rintro e wr ⟨rfl, br1⟩
  have x0 := x0.below br1
  have y0 := y0.mono br1
  have Bel := below_then Bel br1
  have x0_0 := x0.cell0
  have x0_1 := x0.cell1
  rw [HR.out]
  go_wp2_with fail
  refine (put_any _ a0 l0 c0 bs hbs (by omega) n hn wide y0 _ _ HP1.out N HN.out).mono ?_
  rintro e w1 ⟨a1, l1, c1, rfl, y1, b1⟩
  have x0 := x0.below b1
  have y0 := y0.mono b1
  have Bel := below_then Bel b1
  have x1 : BitsBox (w1.alloc (.cells #[.slice a1 l1 c1, .int .i64 (dA.length : Int)] 24)) w1.heap.size a1 l1 c1 (dA.length : Int) := World.alloc_heap_new _ _
  have x0 := x0.below ((Below.refl w1.heap.size w1).alloc (Nat.le_refl _) (.cells #[.slice a1 l1 c1, .int .i64 (dA.length : Int)] 24))
  have y0 := y0.mono ((Below.refl w1.heap.size w1).alloc (Nat.le_refl _) (.cells #[.slice a1 l1 c1, .int .i64 (dA.length : Int)] 24))
  have y1 := y1.mono ((Below.refl w1.heap.size w1).alloc (Nat.le_refl _) (.cells #[.slice a1 l1 c1, .int .i64 (dA.length : Int)] 24))
  have Bel := below_new Bel (.cells #[.slice a1 l1 c1, .int .i64 (dA.length : Int)] 24)
  have x0_0 := x0.cell0
  have x0_1 := x0.cell1
  have x1_0 := x1.cell0
  have x1_1 := x1.cell1
  go_wp2_with fail
  refine (refright_any _ a1 l1 c1 (pack dA) (dA.length : Int) (by omega) (by omega) (by have := y1.len_eq; rw [pack_length] at this; omega) y1).mono ?_
  rintro e wq ⟨rfl, bq⟩
  have x0 := x0.below bq
  have x1 := x1.below bq
  have y0 := y0.mono bq
  have y1 := y1.mono bq
  have Bel := below_then Bel bq
  have x0_0 := x0.cell0
  have x0_1 := x0.cell1
  have x1_0 := x1.cell0
  have x1_1 := x1.cell1
  rw [HR2.out]
  go_wp2_with fail
  refine (put_any _ a1 l1 c1 dA hA (by omega) m hm (K2 : Int) y1 _ _ HP2.out _ rfl).mono ?_
  rintro e w2 ⟨a2, l2, c2, rfl, y2, b2⟩
  have x0 := x0.below b2
  have x1 := x1.below b2
  have y0 := y0.mono b2
  have y1 := y1.mono b2
  have Bel := below_then Bel b2
  have x2 : BitsBox (w2.alloc (.cells #[.slice a2 l2 c2, .int .i64 (dB.length : Int)] 24)) w2.heap.size a2 l2 c2 (dB.length : Int) := World.alloc_heap_new _ _
  have x0 := x0.below ((Below.refl w2.heap.size w2).alloc (Nat.le_refl _) (.cells #[.slice a2 l2 c2, .int .i64 (dB.length : Int)] 24))
  have x1 := x1.below ((Below.refl w2.heap.size w2).alloc (Nat.le_refl _) (.cells #[.slice a2 l2 c2, .int .i64 (dB.length : Int)] 24))
  have y0 := y0.mono ((Below.refl w2.heap.size w2).alloc (Nat.le_refl _) (.cells #[.slice a2 l2 c2, .int .i64 (dB.length : Int)] 24))
  have y1 := y1.mono ((Below.refl w2.heap.size w2).alloc (Nat.le_refl _) (.cells #[.slice a2 l2 c2, .int .i64 (dB.length : Int)] 24))
  have y2 := y2.mono ((Below.refl w2.heap.size w2).alloc (Nat.le_refl _) (.cells #[.slice a2 l2 c2, .int .i64 (dB.length : Int)] 24))
  have Bel := below_new Bel (.cells #[.slice a2 l2 c2, .int .i64 (dB.length : Int)] 24)
  have x0_0 := x0.cell0
  have x0_1 := x0.cell1
  have x1_0 := x1.cell0
  have x1_1 := x1.cell1
  have x2_0 := x2.cell0
  have x2_1 := x2.cell1
  go_wp2_with fail
  refine (take_any _ a2 l2 c2 dB hB (by omega) N wide y2 _ _ HT1.out _ rfl).mono ?_
  rintro e wt ⟨rfl, bt⟩
  have x0 := x0.below bt
  have x1 := x1.below bt
  have x2 := x2.below bt
  have y0 := y0.mono bt
  have y1 := y1.mono bt
  have y2 := y2.mono bt
  have Bel := below_then Bel bt
  have x0_0 := x0.cell0
  have x0_1 := x0.cell1
  have x1_0 := x1.cell0
  have x1_1 := x1.cell1
  have x2_0 := x2.cell0
  have x2_1 := x2.cell1
  go_wp2_with fail
  refine (take_any _ a2 l2 c2 dB hB (by omega) (dA.length : Int) (K2 : Int) y2 _ _ HT2.out _ rfl).mono ?_
  rintro e wu ⟨rfl, bu⟩
  have x0 := x0.below bu
  have x1 := x1.below bu
  have x2 := x2.below bu
  have y0 := y0.mono bu
  have y1 := y1.mono bu
  have y2 := y2.mono bu
  have Bel := below_then Bel bu
  have x0_0 := x0.cell0
  have x0_1 := x0.cell1
  have x1_0 := x1.cell0
  have x1_1 := x1.cell1
  have x2_0 := x2.cell0
  have x2_1 := x2.cell1
  go_wp2
  go_ret
  exact ⟨rfl, Bel⟩
set_option maxHeartbeats 8000000 in
theorem bitsback_ok5 (w : World) (a0 : Option Addr) (l0 c0 : Nat) (l : List Nat) (N : Int) (n : Nat) (wide : Int) (m more : Nat) (hn : n < 18446744073709551616) (hm : m < 18446744073709551616) (hmore : more < 256) (hw1 : -9223372036854775808 ≤ wide) (hw2 : wide ≤ 9223372036854775807) (hN1 : -9223372036854775808 ≤ N) (hN2 : N ≤ 9223372036854775807) (hy : BytesAt w a0 l0 c0 l) (hfew : l0 ≤ 100) (hr : RightI l N) (bs : List Nat) (hbs : IsBits bs) (hlb : l = pack bs) (hsm : bs.length ≤ 1000) (hNb : N = (bs.length : Int)) (dA dB : List Nat) (hA : IsBits dA) (hB : IsBits dB) (hAl : dA.length ≤ 2000) (hBl : dB.length ≤ 3000) (h1 : putS bs n wide = (dA, 0)) (hwd0 : 0 ≤ wide) (hwd : wide ≤ 64) (K2 : Nat) (hK2 : (more : Int) % 65 = (K2 : Int)) (hAN : N + wide = (dA.length : Int)) (ht1 : takeS dB N wide = (n, 0)) (h2 : putS dA m (K2 : Int) = (dB, 5)) (y : Nat) (h : Int) (ht2 : takeS dB (dA.length : Int) (K2 : Int) = (y, h)) :
    Calls Try.prog 4 #[.agg #[.slice a0 l0 c0, .int .i64 N, .int .u64 (n : Int), .int .i64 wide, .int .u64 (m : Int), .int .u8 (more : Int)]] w fun e w' => e = .returned (.bool true) ∧ Below w.heap.size w w' := by
  have hsm0 := hy.small
  have d1 : decide (l0 ≤ 100) = true := by simpa using hfew
  have hright : decide (RightI l N) = true := by simpa using hr
  have HR := Lib.hid hright
  clear hright hr
  subst hlb
  have HN := Lib.hid hNb
  have HP1 := Lib.hid h1
  have hN3 : 0 ≤ N := by omega
  have hN4 : N ≤ 1000 := by omega
  have HP2 := Lib.hid h2
  have HT1 := Lib.hid ht1
  have HT2 := Lib.hid ht2
  have hK64 : K2 ≤ 64 := by omega
  have hright2 : decide (RightI (pack dA) (dA.length : Int)) = true := by
    rw [decide_eq_true_iff]
    exact ⟨by omega, by rw [Int.toNat_natCast]; exact pack_right hA⟩
  have HR2 := Lib.hid hright2
  clear h2 ht1 ht2 hright2
  clear h1 hNb
  have b0 : Below w.heap.size w ((w.alloc (.cells #[.slice a0 l0 c0, .int .i64 N, .int .u64 (n : Int), .int .i64 wide, .int .u64 (m : Int), .int .u8 (more : Int)] 44)).alloc (.cells #[.slice a0 l0 c0, .int .i64 N] 24)) := ((Below.refl _ _).alloc (Nat.le_refl _) _).alloc (by simp) _
  have x0 : BitsBox ((w.alloc (.cells #[.slice a0 l0 c0, .int .i64 N, .int .u64 (n : Int), .int .i64 wide, .int .u64 (m : Int), .int .u8 (more : Int)] 44)).alloc (.cells #[.slice a0 l0 c0, .int .i64 N] 24)) (w.heap.size + 1) a0 l0 c0 N := by
    have := World.alloc_heap_new (w.alloc (.cells #[.slice a0 l0 c0, .int .i64 N, .int .u64 (n : Int), .int .i64 wide, .int .u64 (m : Int), .int .u8 (more : Int)] 44)) (.cells #[.slice a0 l0 c0, .int .i64 N] 24)
    rw [show (w.alloc (.cells #[.slice a0 l0 c0, .int .i64 N, .int .u64 (n : Int), .int .i64 wide, .int .u64 (m : Int), .int .u8 (more : Int)] 44)).heap.size = w.heap.size + 1 from by simp] at this
    exact this
  have y0 := hy.mono b0
  go_enter Try.func4, Try.ntmps4
  go_wp2_with fail
  refine (shown_any _).mono ?_
  rintro e ws ⟨rfl, bs1⟩
  have x0 := x0.below bs1
  have y0 := y0.mono bs1
  have Bel := below_then b0 bs1
  have x0_0 := x0.cell0
  have x0_1 := x0.cell1
  go_wp2_with fail
  refine (few_any _ a0 l0 c0 N hsm0).mono ?_
  rintro e wf ⟨rfl, bf1⟩
  have x0 := x0.below bf1
  have y0 := y0.mono bf1
  have Bel := below_then Bel bf1
  have x0_0 := x0.cell0
  have x0_1 := x0.cell1
  rw [d1]
  go_wp2_with fail
  refine (refright_any _ a0 l0 c0 (pack bs) N hN1 hN2 (by omega) y0).mono ?_
  rintro e wr ⟨rfl, br1⟩
  have x0 := x0.below br1
  have y0 := y0.mono br1
  have Bel := below_then Bel br1
  have x0_0 := x0.cell0
  have x0_1 := x0.cell1
  rw [HR.out]
  go_wp2_with fail
  refine (put_any _ a0 l0 c0 bs hbs (by omega) n hn wide y0 _ _ HP1.out N HN.out).mono ?_
  rintro e w1 ⟨a1, l1, c1, rfl, y1, b1⟩
  have x0 := x0.below b1
  have y0 := y0.mono b1
  have Bel := below_then Bel b1
  have x1 : BitsBox (w1.alloc (.cells #[.slice a1 l1 c1, .int .i64 (dA.length : Int)] 24)) w1.heap.size a1 l1 c1 (dA.length : Int) := World.alloc_heap_new _ _
  have x0 := x0.below ((Below.refl w1.heap.size w1).alloc (Nat.le_refl _) (.cells #[.slice a1 l1 c1, .int .i64 (dA.length : Int)] 24))
  have y0 := y0.mono ((Below.refl w1.heap.size w1).alloc (Nat.le_refl _) (.cells #[.slice a1 l1 c1, .int .i64 (dA.length : Int)] 24))
  have y1 := y1.mono ((Below.refl w1.heap.size w1).alloc (Nat.le_refl _) (.cells #[.slice a1 l1 c1, .int .i64 (dA.length : Int)] 24))
  have Bel := below_new Bel (.cells #[.slice a1 l1 c1, .int .i64 (dA.length : Int)] 24)
  have x0_0 := x0.cell0
  have x0_1 := x0.cell1
  have x1_0 := x1.cell0
  have x1_1 := x1.cell1
  go_wp2_with fail
  refine (refright_any _ a1 l1 c1 (pack dA) (dA.length : Int) (by omega) (by omega) (by have := y1.len_eq; rw [pack_length] at this; omega) y1).mono ?_
  rintro e wq ⟨rfl, bq⟩
  have x0 := x0.below bq
  have x1 := x1.below bq
  have y0 := y0.mono bq
  have y1 := y1.mono bq
  have Bel := below_then Bel bq
  have x0_0 := x0.cell0
  have x0_1 := x0.cell1
  have x1_0 := x1.cell0
  have x1_1 := x1.cell1
  rw [HR2.out]
  go_wp2_with fail
  refine (put_any _ a1 l1 c1 dA hA (by omega) m hm (K2 : Int) y1 _ _ HP2.out _ rfl).mono ?_
  rintro e w2 ⟨a2, l2, c2, rfl, y2, b2⟩
  have x0 := x0.below b2
  have x1 := x1.below b2
  have y0 := y0.mono b2
  have y1 := y1.mono b2
  have Bel := below_then Bel b2
  have x2 : BitsBox (w2.alloc (.cells #[.slice a2 l2 c2, .int .i64 (dB.length : Int)] 24)) w2.heap.size a2 l2 c2 (dB.length : Int) := World.alloc_heap_new _ _
  have x0 := x0.below ((Below.refl w2.heap.size w2).alloc (Nat.le_refl _) (.cells #[.slice a2 l2 c2, .int .i64 (dB.length : Int)] 24))
  have x1 := x1.below ((Below.refl w2.heap.size w2).alloc (Nat.le_refl _) (.cells #[.slice a2 l2 c2, .int .i64 (dB.length : Int)] 24))
  have y0 := y0.mono ((Below.refl w2.heap.size w2).alloc (Nat.le_refl _) (.cells #[.slice a2 l2 c2, .int .i64 (dB.length : Int)] 24))
  have y1 := y1.mono ((Below.refl w2.heap.size w2).alloc (Nat.le_refl _) (.cells #[.slice a2 l2 c2, .int .i64 (dB.length : Int)] 24))
  have y2 := y2.mono ((Below.refl w2.heap.size w2).alloc (Nat.le_refl _) (.cells #[.slice a2 l2 c2, .int .i64 (dB.length : Int)] 24))
  have Bel := below_new Bel (.cells #[.slice a2 l2 c2, .int .i64 (dB.length : Int)] 24)
  have x0_0 := x0.cell0
  have x0_1 := x0.cell1
  have x1_0 := x1.cell0
  have x1_1 := x1.cell1
  have x2_0 := x2.cell0
  have x2_1 := x2.cell1
  go_wp2_with fail
  refine (take_any _ a2 l2 c2 dB hB (by omega) N wide y2 _ _ HT1.out _ rfl).mono ?_
  rintro e wt ⟨rfl, bt⟩
  have x0 := x0.below bt
  have x1 := x1.below bt
  have x2 := x2.below bt
  have y0 := y0.mono bt
  have y1 := y1.mono bt
  have y2 := y2.mono bt
  have Bel := below_then Bel bt
  have x0_0 := x0.cell0
  have x0_1 := x0.cell1
  have x1_0 := x1.cell0
  have x1_1 := x1.cell1
  have x2_0 := x2.cell0
  have x2_1 := x2.cell1
  go_wp2_with fail
  refine (take_any _ a2 l2 c2 dB hB (by omega) (dA.length : Int) (K2 : Int) y2 _ _ HT2.out _ rfl).mono ?_
  rintro e wu ⟨rfl, bu⟩
  have x0 := x0.below bu
  have x1 := x1.below bu
  have x2 := x2.below bu
  have y0 := y0.mono bu
  have y1 := y1.mono bu
  have y2 := y2.mono bu
  have Bel := below_then Bel bu
  have x0_0 := x0.cell0
  have x0_1 := x0.cell1
  have x1_0 := x1.cell0
  have x1_1 := x1.cell1
  have x2_0 := x2.cell0
  have x2_1 := x2.cell1
  go_wp2
  go_ret
  exact ⟨rfl, Bel⟩
theorem bitsback_any (w : World) (a0 : Option Addr) (l0 c0 : Nat) (l : List Nat) (N : Int) (n : Nat) (wide : Int) (m more : Nat) (hn : n < 18446744073709551616) (hm : m < 18446744073709551616) (hmore : more < 256) (hw1 : -9223372036854775808 ≤ wide) (hw2 : wide ≤ 9223372036854775807) (hN1 : -9223372036854775808 ≤ N) (hN2 : N ≤ 9223372036854775807) (hy : BytesAt w a0 l0 c0 l) :
    Calls Try.prog 4 #[.agg #[.slice a0 l0 c0, .int .i64 N, .int .u64 (n : Int), .int .i64 wide, .int .u64 (m : Int), .int .u8 (more : Int)]] w fun e w' => e = .returned (.bool true) ∧ Below w.heap.size w w' := by
  by_cases hfew : l0 ≤ 100
  case neg => exact bitsback_many w a0 l0 c0 l N n wide m more hn hm hmore hw1 hw2 hN1 hN2 hy hfew
  by_cases hr : RightI l N
  case neg => exact bitsback_wrong w a0 l0 c0 l N n wide m more hn hm hmore hw1 hw2 hN1 hN2 hy hfew hr
  obtain ⟨bs, hbs, hlb, hNb⟩ := right_bits hy.byte hr
  have hlen := hy.len_eq
  rw [hlb, pack_length] at hlen
  have hsm : bs.length ≤ 1000 := by omega
  rcases putS_cases bs n wide with ⟨e, he, h15⟩ | ⟨k, rfl, hk, hbl, hput⟩
  · refine bitsback_refused w a0 l0 c0 l N n wide m more hn hm hmore hw1 hw2 hN1 hN2 hy hfew hr bs hbs hlb hsm hNb e ?_ he
    rcases h15 with rfl | rfl <;> decide
  · have hnk := bitLen_lt n k hn (by omega)
    obtain ⟨K2, hK2⟩ : ∃ K2 : Nat, (more : Int) % 65 = (K2 : Int) := ⟨more % 65, by omega⟩
    have hK64 : K2 ≤ 64 := by omega
    have hA := hbs.append (digs_bits n k)
    have hAl : (bs ++ digs n k).length = bs.length + k := by rw [List.length_append, digs_length]
    rcases putS_cases (bs ++ digs n k) m (K2 : Int) with ⟨e, he, h15⟩ | ⟨k2, hk2, _, hbl2, hput2⟩
    · have e5 : e = 5 := by
        rcases h15 with rfl | rfl
        · exfalso
          unfold putS at he
          rw [if_neg (by omega)] at he
          split at he <;> simp at he
        · rfl
      subst e5
      obtain ⟨⟨y, h⟩, ht2⟩ : ∃ x, takeS (bs ++ digs n k) ((bs ++ digs n k).length : Int) (K2 : Int) = x := ⟨_, rfl⟩
      refine bitsback_ok5 w a0 l0 c0 l N n k m more hn hm hmore hw1 hw2 hN1 hN2 hy hfew hr bs hbs hlb hsm hNb (bs ++ digs n k) (bs ++ digs n k) hA hA (by omega) (by omega) hput (by omega) (by omega) K2 hK2 (by omega) ?_ he y h ht2
      rw [hNb]
      have := takeS_mid bs [] n k hk hnk
      rwa [List.append_nil] at this
    · obtain rfl : K2 = k2 := by omega
      have hmk := bitLen_lt m K2 hm (by omega)
      have hB := hA.append (digs_bits m K2)
      have hBl : (bs ++ digs n k ++ digs m K2).length = bs.length + k + K2 := by rw [List.length_append, hAl, digs_length]
      refine bitsback_ok0 w a0 l0 c0 l N n k m more hn hm hmore hw1 hw2 hN1 hN2 hy hfew hr bs hbs hlb hsm hNb (bs ++ digs n k) (bs ++ digs n k ++ digs m K2) hA hB (by omega) (by omega) hput (by omega) (by omega) K2 hK2 (by omega) ?_ hput2 ?_ (by omega)
      · rw [hNb]; exact takeS_mid bs (digs m K2) n k hk hnk
      · have := takeS_mid (bs ++ digs n k) [] m K2 hK64 hmk
        rwa [List.append_nil] at this
end Go.Proofs.Yticbbldlhbooeaa
