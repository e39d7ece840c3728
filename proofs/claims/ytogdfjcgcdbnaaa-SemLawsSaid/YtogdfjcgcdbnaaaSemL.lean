/- A region's order, looked at piece by piece (for regions whose check in one piece the kernel's memory does not hold). -/
import Derived.Test.YtogdfjcgcdbnaaaSemH
namespace Go.Proofs.Ytogdfjcgcdbnaaa
open Go.RowKit
set_option linter.unusedVariables false
/-- The operations of a region of a piece of code. -/
def opsOf (k : Nat) : Code → Option (Array Oper)
  | .region id ops _ => if id = k then some ops else none
  | .seq a b => match opsOf k a with | some x => some x | none => opsOf k b
  | .cond _ a b => match opsOf k a with | some x => some x | none => opsOf k b
  | .block _ c => opsOf k c
  | .loop c => opsOf k c
  | .scope c => opsOf k c
  | _ => none
def lexTo (md : Region.Mode) (ops : Array Oper) : Nat → Nat → Array Bool → Bool
  | 0, _, _ => true
  | m + 1, k, L => (Region.ready md ops L).contains k && Region.free md ops L k && lexTo md ops m (k + 1) (L.setIfInBounds k true)
def setTo : Nat → Nat → Array Bool → Array Bool
  | 0, _, L => L
  | m + 1, k, L => setTo m (k + 1) (L.setIfInBounds k true)
theorem lex_split (md : Region.Mode) (ops : Array Oper) : ∀ (m n k : Nat) (L : Array Bool), lexTo md ops m k L = true → Region.lexFrom md ops n (k + m) (setTo m k L) = true → Region.lexFrom md ops (m + n) k L = true
  | 0, n, k, L, _, h => by simpa [setTo] using h
  | m + 1, n, k, L, h1, h2 => by
    rw [Nat.succ_add]
    simp only [lexTo, Bool.and_eq_true] at h1
    simp only [Region.lexFrom, Bool.and_eq_true]
    refine ⟨h1.1, lex_split md ops m n (k + 1) _ h1.2 ?_⟩
    have : k + 1 + m = k + (m + 1) := by omega
    rw [this]
    exact h2
noncomputable def code4 : Code := Try.f4.body.getD .skip
noncomputable def ops20 : Array Oper := (opsOf 20 code4).getD #[]
theorem size20 : ops20.size = 105 := by kernel_rfl
def L20 (k : Nat) : Array Bool := ((List.replicate k true) ++ List.replicate (105 - k) false).toArray
theorem seg0 : lexTo .any ops20 15 0 (L20 0) = true := by kernel_rfl
theorem seg1 : lexTo .any ops20 15 15 (L20 15) = true := by kernel_rfl
theorem seg2 : lexTo .any ops20 15 30 (L20 30) = true := by kernel_rfl
theorem seg3 : lexTo .any ops20 15 45 (L20 45) = true := by kernel_rfl
theorem seg4 : lexTo .any ops20 15 60 (L20 60) = true := by kernel_rfl
theorem seg5 : lexTo .any ops20 15 75 (L20 75) = true := by kernel_rfl
theorem seg6 : lexTo .any ops20 15 90 (L20 90) = true := by kernel_rfl
theorem seg_end : Region.lexFrom .any ops20 0 105 (L20 105) = true := by kernel_rfl
theorem from6 : Region.lexFrom .any ops20 (15 + 0) 90 (L20 90) = true := lex_split _ _ 15 0 90 _ seg6 (by rw [show setTo 15 90 (L20 90) = L20 105 from by kernel_rfl]; exact seg_end)
theorem from5 : Region.lexFrom .any ops20 (15 + 15) 75 (L20 75) = true := lex_split _ _ 15 15 75 _ seg5 (by rw [show setTo 15 75 (L20 75) = L20 90 from by kernel_rfl]; exact from6)
theorem from4 : Region.lexFrom .any ops20 (15 + 30) 60 (L20 60) = true := lex_split _ _ 15 30 60 _ seg4 (by rw [show setTo 15 60 (L20 60) = L20 75 from by kernel_rfl]; exact from5)
theorem from3 : Region.lexFrom .any ops20 (15 + 45) 45 (L20 45) = true := lex_split _ _ 15 45 45 _ seg3 (by rw [show setTo 15 45 (L20 45) = L20 60 from by kernel_rfl]; exact from4)
theorem from2 : Region.lexFrom .any ops20 (15 + 60) 30 (L20 30) = true := lex_split _ _ 15 60 30 _ seg2 (by rw [show setTo 15 30 (L20 30) = L20 45 from by kernel_rfl]; exact from3)
theorem from1 : Region.lexFrom .any ops20 (15 + 75) 15 (L20 15) = true := lex_split _ _ 15 75 15 _ seg1 (by rw [show setTo 15 15 (L20 15) = L20 30 from by kernel_rfl]; exact from2)
theorem from0 : Region.lexFrom .any ops20 (15 + 90) 0 (L20 0) = true := lex_split _ _ 15 90 0 _ seg0 (by rw [show setTo 15 0 (L20 0) = L20 15 from by kernel_rfl]; exact from1)
theorem lex20 : Region.lexB .any ops20 = true := by
  unfold Region.lexB
  rw [size20, Bool.and_eq_true]
  exact ⟨by kernel_rfl, from0⟩
theorem lex_of {ops l : Array Oper} (h : Region.lexB .any ops = true) (he : ops = l) : Region.lexB .any l = true := he ▸ h
end Go.Proofs.Ytogdfjcgcdbnaaa
