/- Numbers and names by themselves. -/
import Derived.Test.YtcljdlkebaflpaaDoorLex11
namespace Go.Proofs.YtcljdlkebaflpaaDoor
open Go.RowKit
set_option linter.unusedVariables false

/-- What digits say, behind a number. -/
def valN : List UInt8 → Nat → Nat
  | [], n => n
  | c :: r, n => valN r (n * 10 + (c.toNat - 48))
theorem valN_ge : ∀ (l : List UInt8) (n : Nat), n ≤ valN l n := by
  intro l
  induction l with
  | nil => intro n; exact Nat.le_refl _
  | cons c r ih => intro n; have := ih (n * 10 + (c.toNat - 48)); unfold valN; omega
theorem numTo_small : ∀ (l : List UInt8) (n : Nat), valN l n ≤ 1073741824 → numTo l n = valN l n := by
  intro l
  induction l with
  | nil => intro n _; rfl
  | cons c r ih =>
    intro n h
    unfold valN at h
    have := valN_ge r (n * 10 + (c.toNat - 48))
    unfold numTo valN
    rw [if_neg (by omega)]
    exact ih _ h
theorem numTo_great : ∀ (l : List UInt8) (n : Nat), 1073741824 < valN l n → 1073741824 < numTo l n := by
  intro l
  induction l with
  | nil => intro n h; exact h
  | cons c r ih =>
    intro n h
    unfold valN at h
    unfold numTo
    split
    · assumption
    · exact ih _ h
theorem valN_add : ∀ (l : List UInt8) (n : Nat), valN l n = n * 10 ^ l.length + valN l 0 := by
  intro l
  induction l with
  | nil => intro n; simp [valN]
  | cons c r ih =>
    intro n
    rw [show valN (c :: r) n = valN r (n * 10 + (c.toNat - 48)) from rfl, show valN (c :: r) 0 = valN r (0 * 10 + (c.toNat - 48)) from rfl, ih, ih (0 * 10 + _), List.length_cons, Nat.pow_succ, Nat.zero_mul, Nat.zero_add, Nat.add_mul, Nat.mul_assoc, Nat.mul_comm 10, Nat.add_assoc]
theorem valN_cons (c : UInt8) (r : List UInt8) : valN (c :: r) 0 = (c.toNat - 48) * 10 ^ r.length + valN r 0 := by
  rw [show valN (c :: r) 0 = valN r (0 * 10 + (c.toNat - 48)) from rfl, valN_add, Nat.zero_mul, Nat.zero_add]
/-- All digits. -/
def Digits (l : List UInt8) : Prop := ∀ c ∈ l, isDigit (c.toNat : Int) = true
theorem digit_alone {c : UInt8} (h : isDigit (c.toNat : Int) = true) : isBlank (c.toNat : Int) = false ∧ ((c.toNat : Int) == 35) = false ∧ isLetter (c.toNat : Int) = false := by
  simp [isDigit] at h
  refine ⟨?_, ?_, ?_⟩
  · simp [isBlank]; omega
  · simp; omega
  · simp [isLetter]; omega
theorem lexL_digits {l : List UInt8} (hl : l ≠ []) (hd : Digits l) (hs : l.length ≤ 65536) : lexL l = if 1073741824 < numTo l 0 then .error (9, 0) else .ok [⟨2, l, numTo l 0, 0⟩, ⟨4, [], 0, l.length⟩] := by
  have ht := takeC_all hd
  rw [lexL_small hs, lexG_step hl]
  cases l with
  | nil => exact absurd rfl hl
  | cons c r =>
    have hc := hd c (by simp)
    obtain ⟨q1, q2, q3⟩ := digit_alone hc
    have he : eff (c :: r) = if 1073741824 < numTo (c :: r) 0 then .err 9 else .tok 2 (c :: r) (numTo (c :: r) 0) := by
      unfold eff
      simp only [q1, q2, q3, hc, ht, if_true, if_false, Bool.false_eq_true]
    rw [he]
    by_cases h : 1073741824 < numTo (c :: r) 0
    · rw [if_pos h, if_pos h]
    · rw [if_neg h, if_neg h]
      simp only []
      rw [List.drop_length, lexG_nil]
      simp [Except.map]
theorem lexL_name (m : Nat) (h0 : 0 < m) (hm : m ≤ 60) : lexL (32 :: List.replicate m 97 ++ [40]) = if 32 < m then .error (9, 1) else .ok [⟨1, List.replicate m 97, 0, 1⟩, ⟨3, [40], 0, m + 1⟩, ⟨4, [], 0, m + 2⟩] := by
  rw [lexL_small (by simp; omega), List.cons_append, lexG_step (by simp)]
  have e1 : eff (32 :: (List.replicate m 97 ++ [40])) = .skip 1 := by unfold eff; simp [isBlank]
  rw [e1]
  simp only [List.drop_succ_cons, List.drop_zero]
  obtain ⟨k, rfl⟩ : ∃ k, m = k + 1 := ⟨m - 1, by omega⟩
  have ht : takeC isName (List.replicate (k + 1) 97 ++ [40]) = List.replicate (k + 1) 97 := by
    rw [takeC_at (by decide)]
    exact takeC_all fun c hc => by rw [List.eq_of_mem_replicate hc]; decide
  have e2 : eff (List.replicate (k + 1) 97 ++ [40]) = if 32 < k + 1 then .err 9 else .tok 1 (List.replicate (k + 1) 97) 0 := by
    rw [List.replicate_succ, List.cons_append] at ht ⊢
    unfold eff
    have q1 : isBlank ((97 : UInt8).toNat : Int) = false := by decide
    have q2 : (((97 : UInt8).toNat : Int) == 35) = false := by decide
    have q3 : isLetter ((97 : UInt8).toNat : Int) = true := by decide
    simp only [q1, q2, q3, ht, if_true, if_false, Bool.false_eq_true, List.length_cons, List.length_replicate]
  rw [lexG_step (by simp), e2]
  by_cases h : 32 < k + 1
  · rw [if_pos h, if_pos h]
  · rw [if_neg h, if_neg h]
    simp only []
    rw [List.drop_left, lexG_step (by simp)]
    have e3 : eff [40] = .tok 3 [40] 0 := by rfl
    rw [e3]
    simp only [List.length_replicate]
    rw [show ([40] : List UInt8).drop ([40] : List UInt8).length = [] from rfl, lexG_nil]
    simp [Except.map]
    omega
end Go.Proofs.YtcljdlkebaflpaaDoor
