/- BitsOrder returns true. -/
import Derived.Test.YticbbldlhbooeaaBitsHead
import Derived.Test.YticbbldlhbooeaaBitsWide
import Derived.Test.YticbbldlhbooeaaBitsLess
namespace Go.Proofs.Yticbbldlhbooeaa
open Go.RowKit
set_option linter.unusedVariables false

theorem putS_nil (n K : Nat) (hK : K ≤ 64) : putS [] n (K : Int) = if K < Lib.bitLen n then ([], 5) else (digs n K, 0) := by
  unfold putS
  rw [if_neg (by omega)]
  by_cases h : K < Lib.bitLen n
  · rw [if_pos (by omega), if_pos h]
  · rw [if_neg (by omega), if_neg h]; simp
theorem bitLen_lt (n K : Nat) (hn : n < 18446744073709551616) (h : ¬ K < Lib.bitLen n) : n < 2 ^ K := by
  by_cases h0 : n = 0
  · subst h0; exact Nat.two_pow_pos K
  · obtain ⟨k, hk, _, _, hlt⟩ := bitLen_bounds n hn (by omega)
    have : 2 ^ (k + 1) ≤ 2 ^ K := Nat.pow_le_pow_right (by omega) (by omega)
    rw [Nat.pow_succ] at this
    omega
set_option maxHeartbeats 2000000 in
theorem bitsorder_no (w : World) (n m K wd : Nat) (hn : n < 18446744073709551616) (hm : m < 18446744073709551616) (hw : wd < 256) (hK : (wd : Int) % 65 = (K : Int)) (b1 b2 : List Nat) (e f : Int) (h1 : putS [] n (K : Int) = (b1, e)) (h2 : putS [] m (K : Int) = (b2, f)) (he : e ≠ 0 ∨ f ≠ 0) :
    Calls Try.prog 7 #[.int .u64 (n : Int), .int .u64 (m : Int), .int .u8 (wd : Int)] w fun e w' => e = .returned (.bool true) ∧ Below w.heap.size w w' := by
  have HP1 := Lib.hid h1
  have HP2 := Lib.hid h2
  have i2 : Int.ofNat 0 = 0 := rfl
  clear h1 h2
  by_cases h0 : e = 0
  · have d1 : (e != 0) = false := by simpa using h0
    have d2 : (f != 0) = true := by simp; omega
    clear he h0
    go_enter Try.func7, Try.ntmps7
    go_wp2_with fail
    refine (shown_any _).mono ?_
    rintro e' w1 ⟨rfl, q1⟩
    go_wp2_with fail
    refine (put_any _ none 0 0 [] IsBits.nil (by simp) n hn (K : Int) (bytesNone _) _ _ HP1.out 0 rfl).mono ?_
    rintro e' w3 ⟨a1, l1, c1, rfl, y1, q3⟩
    go_wp2_with fail
    refine (put_any _ none 0 0 [] IsBits.nil (by simp) m hm (K : Int) (bytesNone _) _ _ HP2.out 0 rfl).mono ?_
    rintro e' w4 ⟨a2, l2, c2, rfl, y2, q4⟩
    go_wp2
    go_ret
    exact ⟨rfl, below_new (below_then (below_new (below_then q1 q3) _) q4) _⟩
  · have d1 : (e != 0) = true := by simpa using h0
    clear he h0
    go_enter Try.func7, Try.ntmps7
    go_wp2_with fail
    refine (shown_any _).mono ?_
    rintro e' w1 ⟨rfl, q1⟩
    go_wp2_with fail
    refine (put_any _ none 0 0 [] IsBits.nil (by simp) n hn (K : Int) (bytesNone _) _ _ HP1.out 0 rfl).mono ?_
    rintro e' w3 ⟨a1, l1, c1, rfl, y1, q3⟩
    go_wp2_with fail
    refine (put_any _ none 0 0 [] IsBits.nil (by simp) m hm (K : Int) (bytesNone _) _ _ HP2.out 0 rfl).mono ?_
    rintro e' w4 ⟨a2, l2, c2, rfl, y2, q4⟩
    go_wp2
    go_ret
    exact ⟨rfl, below_new (below_then (below_new (below_then q1 q3) _) q4) _⟩
set_option maxHeartbeats 4000000 in
theorem bitsorder_yes (w : World) (n m K wd : Nat) (hn : n < 18446744073709551616) (hm : m < 18446744073709551616) (hw : wd < 256) (hK : (wd : Int) % 65 = (K : Int)) (b1 b2 : List Nat) (h1 : putS [] n (K : Int) = (b1, 0)) (h2 : putS [] m (K : Int) = (b2, 0))
    (hls : Op.bytesLess (strOfNums ((pack b1).map fun (c : Nat) => (c : Int))).toList (strOfNums ((pack b2).map fun (c : Nat) => (c : Int))).toList = decide (n < m)) (heq : ((strOfNums ((pack b1).map fun (c : Nat) => (c : Int))).toList == (strOfNums ((pack b2).map fun (c : Nat) => (c : Int))).toList) = ((n : Int) == (m : Int))) :
    Calls Try.prog 7 #[.int .u64 (n : Int), .int .u64 (m : Int), .int .u8 (wd : Int)] w fun e w' => e = .returned (.bool true) ∧ Below w.heap.size w w' := by
  have HP1 := Lib.hid h1
  have HP2 := Lib.hid h2
  clear h1 h2
  go_enter Try.func7, Try.ntmps7
  go_wp2_with fail
  refine (shown_any _).mono ?_
  rintro e' w1 ⟨rfl, q1⟩
  go_wp2_with fail
  refine (put_any _ none 0 0 [] IsBits.nil (by simp) n hn (K : Int) (bytesNone _) _ _ HP1.out 0 rfl).mono ?_
  rintro e' w3 ⟨a1, l1, c1, rfl, y1, q3⟩
  have x1 : BitsBox (w3.alloc (.cells #[.slice a1 l1 c1, .int .i64 (b1.length : Int)] 24)) w3.heap.size a1 l1 c1 (b1.length : Int) := World.alloc_heap_new _ _
  have s3 : w3.heap.size < (w3.alloc (.cells #[.slice a1 l1 c1, .int .i64 (b1.length : Int)] 24)).heap.size := by simp
  have y1' := y1.mono ((Below.refl _ _).alloc (Nat.le_refl _) (.cells #[.slice a1 l1 c1, .int .i64 (b1.length : Int)] 24))
  go_wp2_with fail
  refine (put_any _ none 0 0 [] IsBits.nil (by simp) m hm (K : Int) (bytesNone _) _ _ HP2.out 0 rfl).mono ?_
  rintro e' w4 ⟨a2, l2, c2, rfl, y2, q4⟩
  have x4 := x1.below q4
  have q0 := x4.cell0
  have z1 := (y1'.mono q4).mono ((Below.refl _ _).alloc (Nat.le_refl _) (.cells #[.slice a2 l2 c2, .int .i64 (b2.length : Int)] 24))
  have z2 := y2.mono ((Below.refl _ _).alloc (Nat.le_refl _) (.cells #[.slice a2 l2 c2, .int .i64 (b2.length : Int)] 24))
  have cv1 := z1.conv 22 5 9 Try.underlying22 Try.underlying5 Try.underlying9
  have cv2 := z2.conv 22 5 9 Try.underlying22 Try.underlying5 Try.underlying9
  have s4 : w3.heap.size < w4.heap.size := Nat.lt_of_lt_of_le s3 q4.size
  go_wp2
  go_ret
  exact ⟨rfl, below_new (below_then (below_new (below_then q1 q3) _) q4) _⟩
theorem bitsorder_any (w : World) (n m wd : Nat) (hn : n < 18446744073709551616) (hm : m < 18446744073709551616) (hw : wd < 256) :
    Calls Try.prog 7 #[.int .u64 (n : Int), .int .u64 (m : Int), .int .u8 (wd : Int)] w fun e w' => e = .returned (.bool true) ∧ Below w.heap.size w w' := by
  obtain ⟨K, hK⟩ : ∃ K : Nat, (wd : Int) % 65 = (K : Int) := ⟨wd % 65, by omega⟩
  have hK64 : K ≤ 64 := by omega
  by_cases h1 : K < Lib.bitLen n
  · obtain ⟨⟨b2, f⟩, hf⟩ : ∃ x, putS [] m (K : Int) = x := ⟨_, rfl⟩
    exact bitsorder_no w n m K wd hn hm hw hK [] b2 5 f (by rw [putS_nil n K hK64, if_pos h1]) hf (.inl (by decide))
  · by_cases h2 : K < Lib.bitLen m
    · obtain ⟨⟨b1, e⟩, he⟩ : ∃ x, putS [] n (K : Int) = x := ⟨_, rfl⟩
      exact bitsorder_no w n m K wd hn hm hw hK b1 [] e 5 he (by rw [putS_nil m K hK64, if_pos h2]) (.inr (by decide))
    · have g1 := bitLen_lt n K hn h1
      have g2 := bitLen_lt m K hm h2
      refine bitsorder_yes w n m K wd hn hm hw hK (digs n K) (digs m K) (by rw [putS_nil n K hK64, if_neg h1]) (by rw [putS_nil m K hK64, if_neg h2]) (digs_less n m K g1 g2) ?_
      rw [Lib.strOfNums_toList, Lib.strOfNums_toList, bytesOf_eq _ _ (pack_lt (digs_bits n K)) (pack_lt (digs_bits m K)), Bool.eq_iff_iff, decide_eq_true_iff, beq_iff_eq, digs_same n m K g1 g2]
      omega
end Go.Proofs.Yticbbldlhbooeaa
