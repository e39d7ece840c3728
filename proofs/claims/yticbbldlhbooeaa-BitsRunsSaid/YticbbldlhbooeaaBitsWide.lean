/- BitsWide returns true. -/
import Derived.Test.YticbbldlhbooeaaBitsHead
import Derived.Laws.MathBits
import Derived.Lib.ItoaNum
namespace Go.Proofs.Yticbbldlhbooeaa
open Go.RowKit
set_option linter.unusedVariables false

theorem bitLen_bounds (n : Nat) (hn : n < 18446744073709551616) (h0 : 0 < n) : ∃ k : Nat, Lib.bitLen n = k + 1 ∧ k ≤ 63 ∧ 2 ^ k ≤ n ∧ n < 2 * 2 ^ k := by
  have hb := Lib.bitLenAux_bounds 64 n (by simpa using hn) (by omega)
  have h64 := Lib.bitLen_le n 64 (by omega) (by simpa using hn)
  have e : Lib.bitLen n = Lib.bitLenAux 64 n := rfl
  rw [← e] at hb
  obtain ⟨h1, h2, h3⟩ := hb
  refine ⟨Lib.bitLen n - 1, by omega, by omega, h2, ?_⟩
  obtain ⟨m, hm⟩ : ∃ m, Lib.bitLen n = m + 1 := ⟨Lib.bitLen n - 1, by omega⟩
  rw [hm] at h3 ⊢
  rw [Nat.pow_succ] at h3
  simpa [Nat.mul_comm] using h3
set_option maxHeartbeats 2000000 in
theorem bitswide_zero (w : World) : Calls Try.prog 9 #[.int .u64 0] w fun e w' => e = .returned (.bool true) ∧ Below w.heap.size w w' := by
  have p1 : putS [] 0 0 = ([], 0) := by decide +kernel
  have p2 : putS [] 0 (-1) = ([], 1) := by decide +kernel
  have HP1 := Lib.hid p1
  have HP2 := Lib.hid p2
  clear p1 p2
  have w0' : Lib.bitLen 0 = 0 := by decide +kernel
  go_enter Try.func9, Try.ntmps9
  go_wp2_with fail
  refine (shown_any _).mono ?_
  rintro e w1 ⟨rfl, b1⟩
  go_wp2_with fail
  refine (wide_int _ 0 (by omega) (by omega)).mono ?_
  rintro e w2 ⟨rfl, rfl⟩
  rw [show Int.toNat 0 = 0 from rfl, w0']
  go_wp2
  go_loop [5, 6] (fun l i => l = .int .u64 1 ∧ i = .int .i64 1) (fun _ _ => 0)
  case atStart => exact ⟨rfl, rfl⟩
  case round =>
    obtain ⟨rfl, rfl⟩ := hrel
    go_wp2_with fail
    refine (put_any _ none 0 0 [] IsBits.nil (by simp) 0 (by omega) 0 (bytesNone _) _ _ HP1.out 0 rfl).mono ?_
    rintro e w3 ⟨a1, l1, c1, rfl, y1, b3⟩
    go_wp2_with fail
    refine (put_any _ none 0 0 [] IsBits.nil (by simp) 0 (by omega) (-1) (bytesNone _) _ _ HP2.out 0 rfl).mono ?_
    rintro e w4 ⟨a2, l2, c2, rfl, y2, b4⟩
    go_wp2
    go_ret
    exact ⟨rfl, below_new (below_then (below_new (below_then b1 b3) _) b4) _⟩
set_option maxHeartbeats 4000000 in
theorem bitswide_pos (w : World) (n : Nat) (hn : n < 18446744073709551616) (h0 : 0 < n) : Calls Try.prog 9 #[.int .u64 (n : Int)] w fun e w' => e = .returned (.bool true) ∧ Below w.heap.size w w' := by
  obtain ⟨k, hk, hk63, hlo, hhi⟩ := bitLen_bounds n hn h0
  have p1 : putS [] n ((k + 1 : Nat) : Int) = (digs n (k + 1), 0) := by
    unfold putS
    rw [if_neg (by omega), if_neg (by omega)]
    simp
  have p2 : putS [] n (k : Int) = ([], 5) := by
    unfold putS
    rw [if_neg (by omega), if_pos (by omega)]
  have HP1 := Lib.hid p1
  have HP2 := Lib.hid p2
  clear p1 p2
  obtain ⟨L, hL⟩ : ∃ L, L = 2 ^ k := ⟨_, rfl⟩
  rw [← hL] at hlo hhi
  have HL := Lib.hid hL
  have HK := Lib.hid hk
  clear hL hk
  have d1 : (((k : Int) + 1) == 0) = false := by simp; omega
  have d2 : ((n : Int) == 0) = false := by simp; omega
  have d3 : decide ((L : Int) ≤ (n : Int)) = true := by simp; omega
  have d4 : decide ((n : Int) - (L : Int) < (L : Int)) = true := by simp; omega
  have d5 : (0 : Int) ≤ (n : Int) - (L : Int) := by omega
  have e1 : (k : Int) + 1 - 1 = (k : Int) := by omega
  go_enter Try.func9, Try.ntmps9
  go_wp2_with fail
  refine (shown_any _).mono ?_
  rintro e w1 ⟨rfl, b1⟩
  go_wp2_with fail
  refine (wide_any _ n hn).mono ?_
  rintro e w2 ⟨rfl, rfl⟩
  rw [HK.out]
  go_wp2
  go_loop [5, 6] (fun l i => ∃ j P : Nat, j ≤ k ∧ P ≤ 9223372036854775808 ∧ l = .int .u64 (P : Int) ∧ i = .int .i64 ((j : Int) + 1) ∧ Hid (P = 2 ^ j)) (fun _ i => k + 1 - (intOf i).toNat)
  case atStart => exact ⟨0, 1, by omega, by omega, rfl, rfl, rfl⟩
  case round =>
    obtain ⟨j, P, hj, hP, rfl, rfl, hPj⟩ := hrel
    by_cases hlt : j < k
    · have hP2 : P ≤ 4611686018427387904 := by
        rw [hPj.out]
        exact Nat.pow_le_pow_right (n := 2) (by omega) (show j ≤ 62 by omega)
      go_wp2
      go_round
      case rel => exact ⟨j + 1, 2 * P, by omega, by omega, by go_num, by go_num, by show 2 * P = 2 ^ (j + 1); rw [hPj.out, Nat.pow_succ, Nat.mul_comm]⟩
      case measure => simp [intOf]; omega
    · obtain rfl : j = k := by omega
      have hPL : P = L := by rw [hPj.out, HL.out]
      subst hPL
      go_wp2_with fail
      refine (put_any _ none 0 0 [] IsBits.nil (by simp) n hn ((j + 1 : Nat) : Int) (bytesNone _) _ _ HP1.out 0 rfl).mono ?_
      rintro e w3 ⟨a1, l1, c1, rfl, y1, b3⟩
      go_wp2_with fail
      refine (put_any _ none 0 0 [] IsBits.nil (by simp) n hn (j : Int) (bytesNone _) _ _ HP2.out 0 rfl).mono ?_
      rintro e w4 ⟨a2, l2, c2, rfl, y2, b4⟩
      go_wp2
      go_ret
      exact ⟨rfl, below_new (below_then (below_new (below_then b1 b3) _) b4) _⟩
theorem bitswide_any (w : World) (n : Nat) (hn : n < 18446744073709551616) : Calls Try.prog 9 #[.int .u64 (n : Int)] w fun e w' => e = .returned (.bool true) ∧ Below w.heap.size w w' := by
  by_cases h0 : 0 < n
  · exact bitswide_pos w n hn h0
  · obtain rfl : n = 0 := by omega
    exact bitswide_zero w
end Go.Proofs.Yticbbldlhbooeaa
