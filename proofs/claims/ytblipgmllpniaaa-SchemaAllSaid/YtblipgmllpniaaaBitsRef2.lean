/- Contracts of scrutinyref01.Same, Right. -/
import Derived.Test.YtblipgmllpniaaaBitsRef1
namespace Go.Proofs.Ytblipgmllpniaaa
open Go.RowKit
set_option linter.unusedVariables false

theorem bits_zero_from (l : List Nat) (N : Nat) (j : Nat) (h : ∀ i, N ≤ i → i < j → bitAt l i = 0) (h0 : bitAt l j = 0) : ∀ i, N ≤ i → i < j + 1 → bitAt l i = 0 := by
  intro i h1 h2
  by_cases e : i = j
  · subst e; exact h0
  · exact h i h1 (by omega)
end Go.Proofs.Ytblipgmllpniaaa
