/- Contract of schema.Bytes. -/
import Derived.Test.YtblipgmllpniaaaSchema8
namespace Go.Proofs.Ytblipgmllpniaaa
open Go.RowKit
set_option linter.unusedVariables false

theorem schemabytes_any (w : World) (a : Option Addr) (len cap : Nat) (fs : List (Int × Int)) (hr : ∀ f ∈ fs, RightF f) (hlen : len ≤ 40) (hl : FieldsAt w a len fs) :
    Calls Try.prog 20 #[.slice a len cap] w fun e w' => e = .returned (.int .i64 (bytesF fs : Nat)) ∧ Below w.heap.size w w' := by
  have hle := bitsF_le fs hr fs.length (Nat.le_refl _)
  rw [List.take_length, hl.len_eq] at hle
  obtain ⟨B, hB⟩ : ∃ B, B = bitsF fs := ⟨_, rfl⟩
  obtain ⟨T, hT⟩ : ∃ T, T = bytesF fs := ⟨_, rfl⟩
  obtain ⟨q, hq⟩ : ∃ q, (B + 7) / 8 = q := ⟨_, rfl⟩
  have hqi : ((B : Int) + 7) / 8 = (q : Int) := by omega
  have hTv : T = if B = 0 then 1 else q := by rw [hT, ← hq, hB]; rfl
  have hmax : max (1 : Int) (q : Int) = (T : Int) := by
    rw [hTv]
    by_cases h0 : B = 0
    · rw [if_pos h0]; omega
    · rw [if_neg h0]; omega
  rw [← hB] at hle
  rw [← hT]
  have HB := Lib.hid hB
  clear hB hT hTv hq
  go_enter Try.func20, Try.ntmps20
  go_wp2_with fail
  refine (schemabits_any _ a len cap fs hr hlen hl).mono ?_
  rintro e w1 ⟨rfl, b1⟩
  rw [← HB.out]
  go_wp2
  go_ret
  exact ⟨rfl, b1⟩
end Go.Proofs.Ytblipgmllpniaaa
