/- Contracts of lex's small functions: blank, letter, digit, what run is given; and of the document's kind. -/
import Derived.Test.YtcljdlkebaflpaaDoorOwn
import Derived.Test.YtcljdlkebaflpaaDoorShelf
import Derived.StillTailTactics
namespace Go.Proofs.YtcljdlkebaflpaaDoor
open Go.RowKit
set_option linter.unusedVariables false

def isBlank (c : Int) : Bool := c == 32 || c == 9 || c == 10 || c == 13
def isLetter (c : Int) : Bool := (decide (97 ≤ c) && decide (c ≤ 122)) || (decide (65 ≤ c) && decide (c ≤ 90)) || c == 95
def isDigit (c : Int) : Bool := decide (48 ≤ c) && decide (c ≤ 57)

theorem ret_bool {a b : Bool} (h : (a = true) ↔ (b = true)) : Ending.returned (.bool a) = .returned (.bool b) := by rw [Bool.eq_iff_iff.2 h]
theorem blank_any (w : World) (c : Int) : Calls Tryd.prog 17 #[.int .u8 c] w fun e w' => e = .returned (.bool (isBlank c)) ∧ w = w' := by
  go_enter Tryd.func17, Tryd.ntmps17
  go_wp2 <;>
  · go_ret
    refine ⟨?_, rfl⟩
    refine ret_bool ?_
    simp [isBlank]
    try omega
theorem letter_any (w : World) (c : Int) : Calls Tryd.prog 20 #[.int .u8 c] w fun e w' => e = .returned (.bool (isLetter c)) ∧ w = w' := by
  go_enter Tryd.func20, Tryd.ntmps20
  go_wp2 <;>
  · go_ret
    refine ⟨?_, rfl⟩
    refine ret_bool ?_
    simp [isLetter]
    try omega
theorem digit_any (w : World) (c : Int) : Calls Tryd.prog 21 #[.int .u8 c] w fun e w' => e = .returned (.bool (isDigit c)) ∧ w = w' := by
  go_enter Tryd.func21, Tryd.ntmps21
  go_wp2 <;>
  · go_ret
    refine ⟨?_, rfl⟩
    refine ret_bool ?_
    simp [isDigit]
    try omega
/-- What run is given. -/
theorem noline_any (w : World) (c : Int) : Calls Tryd.prog 19 #[.int .u8 c] w fun e w' => e = .returned (.bool (c != 10)) ∧ w = w' := by
  go_enter Tryd.func19, Tryd.ntmps19
  go_wp2
  go_ret
  exact ⟨rfl, rfl⟩
theorem inname_any (w : World) (c : Int) : Calls Tryd.prog 23 #[.int .u8 c] w fun e w' => e = .returned (.bool (isLetter c || isDigit c)) ∧ w = w' := by
  cases hl : isLetter c <;>
  · go_enter Tryd.func23, Tryd.ntmps23
    go_wp2_with ((first | (go_at_call 20; refine (letter_any _ c).mono ?_; rintro e w' ⟨rfl, rfl⟩; rw [hl]) | (go_at_call 21; refine (digit_any _ c).mono ?_; rintro e w' ⟨rfl, rfl⟩)))
    go_ret
    exact ⟨rfl, rfl⟩
/-- What a byte is, in the document's answer. -/
def kindOf (c : Int) : Nat := if isBlank c then 0 else if isLetter c then 1 else if isDigit c then 2 else 3
theorem kindOf_cases (c : Int) : (kindOf c : Int) = if c = 32 ∨ c = 9 ∨ c = 10 ∨ c = 13 then 0 else if (97 ≤ c ∧ c ≤ 122) ∨ (65 ≤ c ∧ c ≤ 90) ∨ c = 95 then 1 else if 48 ≤ c ∧ c ≤ 57 then 2 else 3 := by
  unfold kindOf
  simp only [isBlank, isLetter, isDigit, Bool.or_eq_true, Bool.and_eq_true, decide_eq_true_eq, beq_iff_eq, or_assoc]
  repeat' split
  all_goals rfl
theorem kind_any (w : World) (c : Int) : Calls Tryd.prog 25 #[.int .u8 c] w fun e w' => e = .returned (.int .i64 (kindOf c : Nat)) ∧ w = w' := by
  go_enter Tryd.func25, Tryd.ntmps25
  go_wp2 <;>
  · go_ret
    refine ⟨?_, rfl⟩
    refine ret_int ?_
    rw [kindOf_cases]
    repeat' split
    all_goals first | rfl | (exfalso; omega) | (exfalso; simp only [beq_eq_false_iff_ne, beq_iff_eq, ne_eq] at *; omega)
end Go.Proofs.YtcljdlkebaflpaaDoor
