/- Ranges: contracts of what is told of one. -/
import Derived.Test.YtblipgmllpniaaaBitsRef1
namespace Go.Proofs.Ytblipgmllpniaaa
open Go.RowKit
set_option linter.unusedVariables false

/-- May a range be? -/
def RightF (f : Int × Int) : Prop := f.1 ≤ f.2 ∧ -1073741824 ≤ f.1 ∧ f.2 ≤ 1073741824 ∧ f.2 - f.1 ≤ 65535
instance (f : Int × Int) : Decidable (RightF f) := by unfold RightF; infer_instance
/-- How many bits a number of a range has. -/
def wideF (f : Int × Int) : Nat := Lib.bitLen (f.2 - f.1).toNat
theorem faults_any (w : World) (lo hi : Int) (l1 : -9223372036854775808 ≤ lo) (l2 : lo ≤ 9223372036854775807) (h1 : -9223372036854775808 ≤ hi) (h2 : hi ≤ 9223372036854775807) :
    Calls Try.prog 28 #[.agg #[.int .i64 lo, .int .i64 hi]] w fun e w' => e = .returned (.int .i64 (if RightF (lo, hi) then 0 else 1)) ∧ Below w.heap.size w w' := by
  have bb : ∀ o : Obj, Below w.heap.size w (w.alloc o) := fun o => (Below.refl _ _).alloc (Nat.le_refl _) _
  by_cases g1 : hi < lo
  · have d1 : decide (hi < lo) = true := by simpa using g1
    rw [if_neg (by unfold RightF; simp; omega)]
    go_enter Try.func28, Try.ntmps28
    go_wp2
    go_ret
    exact ⟨rfl, bb _⟩
  have d1 : decide (hi < lo) = false := by simpa using g1
  by_cases g2 : lo < -1073741824
  · have d2 : decide (lo < -1073741824) = true := by simpa using g2
    rw [if_neg (by unfold RightF; simp; omega)]
    go_enter Try.func28, Try.ntmps28
    go_wp2
    go_ret
    exact ⟨rfl, bb _⟩
  have d2 : decide (lo < -1073741824) = false := by simpa using g2
  by_cases g3 : 1073741824 < hi
  · have d3 : decide (1073741824 < hi) = true := by simpa using g3
    rw [if_neg (by unfold RightF; simp; omega)]
    go_enter Try.func28, Try.ntmps28
    go_wp2
    go_ret
    exact ⟨rfl, bb _⟩
  have d3 : decide (1073741824 < hi) = false := by simpa using g3
  obtain ⟨d, hd⟩ : ∃ d : Nat, hi - lo = (d : Int) := ⟨(hi - lo).toNat, by omega⟩
  have hdb : d ≤ 2147483648 := by omega
  by_cases g4 : 65536 ≤ d
  · have d4 : decide ((65536 : Int) ≤ (d : Int)) = true := by simp; omega
    have d4' : decide (65536 ≤ d) = true := by simpa using g4
    rw [if_neg (by unfold RightF; simp; omega)]
    go_enter Try.func28, Try.ntmps28
    go_wp2
    go_ret
    exact ⟨rfl, bb _⟩
  · have d4 : decide ((65536 : Int) ≤ (d : Int)) = false := by simp; omega
    have d4' : decide (65536 ≤ d) = false := by simpa using g4
    rw [if_pos (by unfold RightF; simp; omega)]
    go_enter Try.func28, Try.ntmps28
    go_wp2
    go_ret
    exact ⟨rfl, bb _⟩
theorem spanwide_any (w : World) (lo hi : Int) (hr : RightF (lo, hi)) :
    Calls Try.prog 33 #[.agg #[.int .i64 lo, .int .i64 hi]] w fun e w' => e = .returned (.int .i64 (wideF (lo, hi) : Nat)) ∧ Below w.heap.size w w' := by
  unfold RightF at hr
  simp at hr
  obtain ⟨d, hd⟩ : ∃ d : Nat, hi - lo = (d : Int) := ⟨(hi - lo).toNat, by omega⟩
  have hdb : d ≤ 65535 := by omega
  have hw : wideF (lo, hi) = Lib.bitLen d := by unfold wideF; simp only; rw [hd, Int.toNat_natCast]
  rw [hw]
  obtain ⟨g1, g2, g3, g4⟩ := hr
  clear hw
  go_enter Try.func33, Try.ntmps33
  go_wp2_with fail
  refine (wide_any _ d (by omega)).mono ?_
  rintro e w' ⟨rfl, rfl⟩
  go_wp2
  go_ret
  exact ⟨rfl, (Below.refl _ _).alloc (Nat.le_refl _) _⟩
theorem schemawide_any (w : World) (lo hi : Int) (hr : RightF (lo, hi)) :
    Calls Try.prog 16 #[.agg #[.int .i64 lo, .int .i64 hi]] w fun e w' => e = .returned (.int .i64 (wideF (lo, hi) : Nat)) ∧ Below w.heap.size w w' := by
  go_enter Try.func16, Try.ntmps16
  go_wp2_with fail
  refine (spanwide_any _ lo hi hr).mono ?_
  rintro e w1 ⟨rfl, b1⟩
  go_wp2
  go_ret
  exact ⟨rfl, ((Below.refl _ _).alloc (Nat.le_refl _) _).trans (b1.mono (by simp))⟩
/-- Is a number in a range? -/
def hasF (f : Int × Int) (n : Int) : Bool := decide (f.1 ≤ n ∧ n ≤ f.2)
theorem has_any (w : World) (lo hi n : Int) :
    Calls Try.prog 34 #[.agg #[.int .i64 lo, .int .i64 hi], .int .i64 n] w fun e w' => e = .returned (.bool (hasF (lo, hi) n)) ∧ Below w.heap.size w w' := by
  have bb : ∀ o : Obj, Below w.heap.size w (w.alloc o) := fun o => (Below.refl _ _).alloc (Nat.le_refl _) _
  by_cases g1 : lo ≤ n
  · have d1 : decide (lo ≤ n) = true := by simpa using g1
    have e : hasF (lo, hi) n = decide (n ≤ hi) := by unfold hasF; simp [g1]
    rw [e]
    clear e
    go_enter Try.func34, Try.ntmps34
    go_wp2
    go_ret
    exact ⟨rfl, bb _⟩
  · have d1 : decide (lo ≤ n) = false := by simpa using g1
    have e : hasF (lo, hi) n = false := by unfold hasF; simp [g1]
    rw [e]
    clear e
    go_enter Try.func34, Try.ntmps34
    go_wp2
    go_ret
    exact ⟨rfl, bb _⟩
theorem bitLen_zero : Lib.bitLen 0 = 0 := by decide +kernel
theorem schemarefwide_any (w : World) (lo hi : Int) (hr : RightF (lo, hi)) :
    Calls Try.prog 17 #[.agg #[.int .i64 lo, .int .i64 hi]] w fun e w' => e = .returned (.int .i64 (wideF (lo, hi) : Nat)) ∧ Below w.heap.size w w' := by
  unfold RightF at hr
  simp at hr
  obtain ⟨d, hd⟩ : ∃ d : Nat, hi - lo = (d : Int) := ⟨(hi - lo).toNat, by omega⟩
  have hdb : d ≤ 65535 := by omega
  have hw : wideF (lo, hi) = Lib.bitLen d := by unfold wideF; simp only; rw [hd, Int.toNat_natCast]
  obtain ⟨B, hB⟩ : ∃ B, B = Lib.bitLen d := ⟨_, rfl⟩
  have hB64 : B ≤ 64 := by rw [hB]; exact Lib.bitLen_le d 64 (by omega) (by omega)
  rw [hw, ← hB]
  have HB := Lib.hid hB
  obtain ⟨g1, g2, g3, g4⟩ := hr
  clear hw hB
  go_enter Try.func17, Try.ntmps17
  go_wp2
  go_loop [3, 4] (fun k x => ∃ m j : Nat, m ≤ 65535 ∧ x = .int .i64 (m : Int) ∧ k = .int .i64 (j : Int) ∧ Hid (j + Lib.bitLen m = B)) (fun _ x => (intOf x).toNat)
  case atStart => exact ⟨d, 0, hdb, rfl, rfl, by show 0 + Lib.bitLen d = B; rw [HB.out, Nat.zero_add]⟩
  case round =>
    obtain ⟨m, j, hm, rfl, rfl, hj⟩ := hrel
    by_cases h0 : 0 < m
    · have H1 := Lib.hid (bitLen_half m h0 (by omega))
      have h2 : j < 64 := by have := hj.out; have := H1.out; omega
      go_wp2
      go_round
      case rel => exact ⟨m / 2, j + 1, by omega, by go_num, by go_num, by have := H1.out; have := hj.out; show j + 1 + Lib.bitLen (m / 2) = B; omega⟩
      case measure => simp [intOf]; omega
    · obtain rfl : m = 0 := by omega
      go_wp2
      go_ret
      have h3 := hj.out
      rw [bitLen_zero] at h3
      exact ⟨ret_int (by omega), (Below.refl _ _).alloc (Nat.le_refl _) _⟩
end Go.Proofs.Ytblipgmllpniaaa
