/- Contracts of schema.Right, Bits. -/
import Derived.Test.YtblipgmllpniaaaSchema7
namespace Go.Proofs.Ytblipgmllpniaaa
open Go.RowKit
set_option linter.unusedVariables false

theorem faultsF_zero (fs : List (Int × Int)) : faultsF fs = 0 ↔ ∀ f ∈ fs, RightF f := by
  have key : ∀ j, j ≤ fs.length → (faultsF (fs.take j) = 0 ↔ ∀ k, k < j → RightF (fs.getD k (0, 0))) := by
    intro j
    induction j with
    | zero => intro _; simp [faultsF]
    | succ j ih =>
      intro hj
      rw [faultsF_step fs j (by omega)]
      have ih := ih (by omega)
      by_cases g : RightF (fs.getD j (0, 0))
      · rw [if_pos g, Nat.add_zero, ih]
        constructor
        · intro h k hk
          by_cases e : k = j
          · rw [e]; exact g
          · exact h k (by omega)
        · intro h k hk; exact h k (by omega)
      · rw [if_neg g]
        constructor
        · intro h; omega
        · intro h; exact absurd (h j (by omega)) g
  have := key fs.length (Nat.le_refl _)
  rw [List.take_length] at this
  rw [this]
  constructor
  · intro h f hf
    obtain ⟨k, hk, rfl⟩ := List.mem_iff_getElem.1 hf
    have := h k hk
    simpa [hk] using this
  · intro h k hk
    exact h _ (getD_mem hk)
theorem schemabits_any (w : World) (a : Option Addr) (len cap : Nat) (fs : List (Int × Int)) (hr : ∀ f ∈ fs, RightF f) (hlen : len ≤ 40) (hl : FieldsAt w a len fs) :
    Calls Try.prog 18 #[.slice a len cap] w fun e w' => e = .returned (.int .i64 (bitsF fs : Nat)) ∧ Below w.heap.size w w' := by
  go_enter Try.func18, Try.ntmps18
  go_wp2_with fail
  refine (spans_any _ a len cap fs hlen hl).mono ?_
  rintro e w1 ⟨b, c, rfl, hl1, b1⟩
  go_wp2_with fail
  refine (sumwide_any _ b len c fs hr hlen hl1).mono ?_
  rintro e w2 ⟨rfl, b2⟩
  go_wp2
  go_ret
  exact ⟨rfl, b1.trans (b2.mono b1.size)⟩
theorem schemaright_any (w : World) (a : Option Addr) (len cap : Nat) (fs : List (Int × Int)) (hl : FieldsAt w a len fs) :
    Calls Try.prog 11 #[.slice a len cap] w fun e w' => e = .returned (.bool (decide (RightS2 fs))) ∧ Below w.heap.size w w' := by
  have hsm := hl.small
  by_cases g1 : len < 1
  · have e1 : decide (RightS2 fs) = false := by rw [decide_eq_false_iff_not]; intro h; have := h.1; rw [hl.len_eq] at this; omega
    have d1 : decide ((1 : Int) ≤ (len : Int)) = false := by simp; omega
    have d2 : decide (1 ≤ len) = false := by simp; omega
    rw [e1]
    clear e1
    go_enter Try.func11, Try.ntmps11
    go_wp2
    go_ret
    exact ⟨rfl, Below.refl _ _⟩
  have d1 : decide ((1 : Int) ≤ (len : Int)) = true := by simp; omega
  have d2 : decide (1 ≤ len) = true := by simp; omega
  by_cases g2 : 17 < len
  · have e1 : decide (RightS2 fs) = false := by rw [decide_eq_false_iff_not]; intro h; have := h.2.1; rw [hl.len_eq] at this; omega
    have d3 : decide ((len : Int) ≤ 17) = false := by simp; omega
    have d4 : decide (len ≤ 17) = false := by simp; omega
    rw [e1]
    clear e1
    go_enter Try.func11, Try.ntmps11
    go_wp2
    go_ret
    exact ⟨rfl, Below.refl _ _⟩
  have d3 : decide ((len : Int) ≤ 17) = true := by simp; omega
  have d4 : decide (len ≤ 17) = true := by simp; omega
  obtain ⟨D, hD⟩ : ∃ D, D = decide (RightS2 fs) := ⟨_, rfl⟩
  have e1 : ((faultsF fs : Int) == 0) = D := by
    rw [hD, Bool.eq_iff_iff, beq_iff_eq, decide_eq_true_iff]
    have := faultsF_zero fs
    constructor
    · intro h; exact ⟨by rw [hl.len_eq]; omega, by rw [hl.len_eq]; omega, this.1 (by omega)⟩
    · intro h; have := this.2 h.2.2; omega
  rw [← hD]
  clear hD
  go_enter Try.func11, Try.ntmps11
  go_wp2_with fail
  refine (spans_any _ a len cap fs (by omega) hl).mono ?_
  rintro e w1 ⟨b, c, rfl, hl1, b1⟩
  go_wp2_with fail
  refine (sumfaults_any _ b len c fs (by omega) hl1).mono ?_
  rintro e w2 ⟨rfl, b2⟩
  go_wp2
  go_ret
  exact ⟨rfl, b1.trans (b2.mono b1.size)⟩
end Go.Proofs.Ytblipgmllpniaaa
