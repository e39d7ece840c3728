/- Contract of scrutinyref01.Take. -/
import Derived.Test.YtblipgmllpniaaaBitsRef2
import Derived.Test.YtblipgmllpniaaaBits8
namespace Go.Proofs.Ytblipgmllpniaaa
open Go.RowKit
set_option linter.unusedVariables false

theorem reftake_bad (w : World) (a : Option Addr) (len cap : Nat) (N at_ wide : Int) (hw1 : -9223372036854775808 ≤ wide) (hw2 : wide ≤ 9223372036854775807) (hw : wide < 0 ∨ 64 < wide) :
    Calls Try.prog 32 #[.agg #[.slice a len cap, .int .i64 N], .int .i64 at_, .int .i64 wide] w (NumOut 0 1 w) := by
  have bb : ∀ o : Obj, Below w.heap.size w (w.alloc o) := fun o => (Below.refl _ _).alloc (Nat.le_refl _) _
  by_cases h1 : wide < 0
  · have d1 : decide (wide < 0) = true := by simpa using h1
    clear hw
    go_enter Try.func32, Try.ntmps32
    go_wp2
    go_ret2
    exact ⟨rfl, bb _⟩
  · have d1 : decide (wide < 0) = false := by simpa using h1
    have d2 : decide (64 < wide) = true := by simp; omega
    clear hw
    go_enter Try.func32, Try.ntmps32
    go_wp2
    go_ret2
    exact ⟨rfl, bb _⟩
theorem reftake_none (w : World) (a : Option Addr) (len cap : Nat) (N at_ wide : Int) (h1 : 0 ≤ wide) (h2 : wide ≤ 64) (hN0 : 0 ≤ N) (hN1 : N ≤ 1099511627776) (hat1 : -9223372036854775808 ≤ at_) (hat2 : at_ ≤ 9223372036854775807) (h : at_ < 0 ∨ N < at_ ∨ N - at_ < wide) :
    Calls Try.prog 32 #[.agg #[.slice a len cap, .int .i64 N], .int .i64 at_, .int .i64 wide] w (NumOut 0 10 w) := by
  have bb : ∀ o : Obj, Below w.heap.size w (w.alloc o) := fun o => (Below.refl _ _).alloc (Nat.le_refl _) _
  have d1 : decide (wide < 0) = false := by simpa using h1
  have d2 : decide (64 < wide) = false := by simpa using h2
  by_cases g1 : at_ < 0
  · have e1 : decide (at_ < 0) = true := by simpa using g1
    clear h
    go_enter Try.func32, Try.ntmps32
    go_wp2
    go_ret2
    exact ⟨rfl, bb _⟩
  have e1 : decide (at_ < 0) = false := by simpa using g1
  by_cases g2 : N < at_
  · have e2 : decide (N < at_) = true := by simpa using g2
    clear h
    go_enter Try.func32, Try.ntmps32
    go_wp2
    go_ret2
    exact ⟨rfl, bb _⟩
  have e2 : decide (N < at_) = false := by simpa using g2
  have e3 : decide (N - at_ < wide) = true := by simp; omega
  clear h
  go_enter Try.func32, Try.ntmps32
  go_wp2
  go_ret2
  exact ⟨rfl, bb _⟩
set_option maxHeartbeats 4000000 in
theorem reftake_ok (w : World) (a : Option Addr) (len cap : Nat) (bs : List Nat) (hbs : IsBits bs) (hsm : bs.length ≤ 549755813888) (N : Int) (hN : N = (bs.length : Int)) (A k : Nat) (hk : k ≤ 64) (hA : A + k ≤ bs.length) (hl : BytesAt w a len cap (pack bs)) :
    Calls Try.prog 32 #[.agg #[.slice a len cap, .int .i64 N], .int .i64 (A : Int), .int .i64 (k : Int)] w (NumOut (valOf (cutBits bs A k)) 0 w) := by
  have d1 : decide ((k : Int) < 0) = false := by simp
  have d2 : decide (64 < (k : Int)) = false := by simp; omega
  have e1 : decide ((A : Int) < 0) = false := by simp
  have e2 : decide (N < (A : Int)) = false := by simp; omega
  have e3 : decide (N - (A : Int) < (k : Int)) = false := by simp; omega
  have hN0 : 0 ≤ N := by omega
  have hN1 : N ≤ 549755813888 := by omega
  obtain ⟨E, hE⟩ : ∃ E : Nat, (A : Int) + (k : Int) = (E : Int) := ⟨A + k, by omega⟩
  have hE8 : E ≤ 8 * len := by have := hl.len_eq; rw [pack_length] at this; omega
  have hlen : len ≤ 1099511627776 := by have := hl.len_eq; rw [pack_length] at this; omega
  have hEA : (A : Int) ≤ (E : Int) := by omega
  obtain ⟨W1, hW1⟩ : ∃ W1, W1 = w.alloc (.cells #[.slice a len cap, .int .i64 N] 53) := ⟨_, rfl⟩
  have b1 : Below w.heap.size w W1 := by rw [hW1]; exact (Below.refl _ _).alloc (Nat.le_refl _) _
  have x1 : BitsBox W1 w.heap.size a len cap N := by rw [hW1]; exact World.alloc_heap_new _ _
  have y1 := hl.mono b1
  obtain ⟨C, hC⟩ : ∃ C, C = cutBits bs A k := ⟨_, rfl⟩
  have hCl : C.length = k := by rw [hC]; exact cutBits_length bs A k hA
  have hCb : IsBits C := by
    rw [hC]; intro x hx
    exact hbs x (List.mem_of_mem_drop (List.mem_of_mem_take hx))
  have hstep : ∀ j, j < k → C.take (j + 1) = C.take j ++ [bs.getD (A + j) 0] := by
    intro j hj; rw [hC]; exact cutBits_take bs A k j hA hj
  have hlt : ∀ j, j < k → valOf (C.take j) < 9223372036854775808 := by
    intro j hj
    have := valOf_lt (C.take j) (fun x hx => hCb x (List.mem_of_mem_take hx))
    rw [List.length_take, hCl, show min j k = j from by omega] at this
    have hp : 2 ^ j ≤ 2 ^ 63 := Nat.pow_le_pow_right (by omega) (by omega)
    omega
  have hlt2 : ∀ j, j ≤ k → valOf (C.take j) < 18446744073709551616 := by
    intro j hj
    have := valOf_lt (C.take j) (fun x hx => hCb x (List.mem_of_mem_take hx))
    rw [List.length_take, hCl, show min j k = j from by omega] at this
    have hp : 2 ^ j ≤ 2 ^ 64 := Nat.pow_le_pow_right (by omega) (by omega)
    omega
  rw [← hC]
  have HN := Lib.hid hN
  have HCL := Lib.hid hCl
  clear hN hC hCl hE8
  have hE8 : E ≤ 8 * len := by have := hl.len_eq; rw [pack_length] at this; have := HN.out; omega
  go_enter Try.func32, Try.ntmps32
  go_wp2
  rw [← hW1]
  clear hW1
  go_loopw [8, 9] (fun n i wr => ∃ j q V : Nat, j ≤ k ∧ q ≤ E ∧ V < 18446744073709551616 ∧ i = .int .i64 (q : Int) ∧ n = .int .u64 (V : Int) ∧ Hid (q = A + j) ∧ Hid (V = valOf (C.take j)) ∧ Below W1.heap.size W1 wr) (fun _ i _ => E - (intOf i).toNat)
  case atStart => exact ⟨0, A, 0, by omega, by omega, by omega, rfl, rfl, rfl, by simp [Hid, valOf], Below.refl _ _⟩
  case round =>
    obtain ⟨j, q, V, hj, hq, hV, rfl, rfl, hqe, hVe, hbel⟩ := hrel
    have x2 := x1.below hbel
    have g0 := x2.cell0
    have g1 := x2.cell1
    have y2 := y1.mono hbel
    have hqj := hqe.out
    by_cases hlt' : q < E
    · have hjk : j < k := by omega
      have hV63 : V < 9223372036854775808 := by have := hlt j hjk; have := hVe.out; omega
      have hst := hstep j hjk
      clear hqj
      go_wp2_with fail
      refine (refbit_any _ _ _ _ _ _ q (by omega) hlen y2).mono ?_
      rintro e w2 ⟨rfl, b2⟩
      rw [bitAt_pack hbs]
      have hbit : bs.getD q 0 < 2 := hbs.getD q
      rw [← hqe.out] at hst
      generalize bs.getD q 0 = b at *
      have HST := Lib.hid hst
      clear hst
      go_wp2
      go_roundw
      case rel => exact ⟨j + 1, q + 1, 2 * V + b, by omega, by omega, by omega, by go_num, by go_num, by show q + 1 = A + (j + 1); have := hqe.out; omega, by show 2 * V + b = valOf (C.take (j + 1)); rw [HST.out, valOf_snoc, hVe.out], below_then hbel b2⟩
      case measure => simp [intOf]; omega
    · have hjk : j = k := by omega
      subst hjk
      go_wp2
      go_ret2
      have hv := hVe.out
      rw [List.take_of_length_le (by rw [HCL.out]; omega)] at hv
      rw [← hv]
      exact ⟨rfl, b1.trans (hbel.mono b1.size)⟩
theorem reftake_any (w : World) (a : Option Addr) (len cap : Nat) (bs : List Nat) (hbs : IsBits bs) (hsm : bs.length ≤ 549755813888) (at_ wide : Int) (hw1 : -9223372036854775808 ≤ wide) (hw2 : wide ≤ 9223372036854775807) (hat1 : -9223372036854775808 ≤ at_) (hat2 : at_ ≤ 9223372036854775807) (hl : BytesAt w a len cap (pack bs)) (v : Nat) (c : Int) (hp : takeS bs at_ wide = (v, c)) (n : Int) (hn : n = (bs.length : Int)) :
    Calls Try.prog 32 #[.agg #[.slice a len cap, .int .i64 n], .int .i64 at_, .int .i64 wide] w (NumOut v c w) := by
  unfold takeS at hp
  by_cases h1 : wide < 0 ∨ 64 < wide
  · rw [if_pos h1] at hp
    simp at hp
    obtain ⟨rfl, rfl⟩ := hp
    exact reftake_bad w a len cap _ at_ wide hw1 hw2 h1
  · rw [if_neg h1] at hp
    by_cases h2 : at_ < 0 ∨ (bs.length : Int) < at_ ∨ (bs.length : Int) - at_ < wide
    · rw [if_pos h2] at hp
      simp at hp
      obtain ⟨rfl, rfl⟩ := hp
      exact reftake_none w a len cap n at_ wide (by omega) (by omega) (by omega) (by omega) hat1 hat2 (by omega)
    · rw [if_neg h2] at hp
      simp at hp
      obtain ⟨rfl, rfl⟩ := hp
      obtain ⟨k, rfl⟩ := Int.eq_ofNat_of_zero_le (show 0 ≤ wide by omega)
      obtain ⟨j, rfl⟩ := Int.eq_ofNat_of_zero_le (show 0 ≤ at_ by omega)
      rw [Int.toNat_natCast, Int.toNat_natCast]
      exact reftake_ok w a len cap bs hbs hsm n hn j k (by omega) (by omega) hl
end Go.Proofs.Ytblipgmllpniaaa
