/- Sums over rows of ranges: contracts of schema.sum. -/
import Derived.Test.YtblipgmllpniaaaSchema5
namespace Go.Proofs.Ytblipgmllpniaaa
open Go.RowKit
set_option linter.unusedVariables false

/-- How many ranges may not be. -/
def faultsF (fs : List (Int × Int)) : Nat := fs.foldl (fun n f => n + if RightF f then 0 else 1) 0
theorem faultsF_snoc (fs : List (Int × Int)) (f : Int × Int) : faultsF (fs ++ [f]) = faultsF fs + if RightF f then 0 else 1 := by simp [faultsF]
theorem faultsF_step (fs : List (Int × Int)) (j : Nat) (h : j < fs.length) : faultsF (fs.take (j + 1)) = faultsF (fs.take j) + if RightF (fs.getD j (0, 0)) then 0 else 1 := by
  rw [List.take_succ_eq_append_getElem h, faultsF_snoc]; simp [h]
theorem faults_nat (w : World) (lo hi : Int) (l1 : -9223372036854775808 ≤ lo) (l2 : lo ≤ 9223372036854775807) (h1 : -9223372036854775808 ≤ hi) (h2 : hi ≤ 9223372036854775807) :
    Calls Try.prog 28 #[.agg #[.int .i64 lo, .int .i64 hi]] w fun e w' => e = .returned (.int .i64 ((if RightF (lo, hi) then 0 else 1 : Nat) : Int)) ∧ Below w.heap.size w w' := by
  have h := faults_any w lo hi l1 l2 h1 h2
  by_cases g : RightF (lo, hi)
  · rw [if_pos g] at h ⊢; exact h
  · rw [if_neg g] at h ⊢; exact h
set_option maxHeartbeats 2000000 in
theorem sumfaults_any (w : World) (a : Option Addr) (len cap : Nat) (fs : List (Int × Int)) (hlen : len ≤ 40) (hl : FieldsAt w a len fs) :
    Calls Try.prog 26 #[.slice a len cap, .func (.func 28) #[] #[]] w fun e w' => e = .returned (.int .i64 (faultsF fs : Nat)) ∧ Below w.heap.size w w' := by
  have HL := Lib.hid hl.len_eq
  go_enter Try.func26, Try.ntmps26
  go_wp2
  go_loopw [5, 10] (fun n i wr => ∃ j M : Nat, j ≤ len ∧ M ≤ 1 * j ∧ i = .int .i64 (j : Int) ∧ n = .int .i64 (M : Int) ∧ Hid (M = faultsF (fs.take j)) ∧ Below w.heap.size w wr) (fun _ i _ => len - (intOf i).toNat)
  case atStart => exact ⟨0, 0, by omega, by omega, rfl, rfl, by simp [Hid, faultsF], Below.refl _ _⟩
  case round =>
    obtain ⟨j, M, hj, hM, rfl, rfl, hMe, hbel⟩ := hrel
    by_cases hlt : j < len
    · obtain ⟨b, off, rfl, hb, hc⟩ := (hl.mono hbel).at_.resolve_left (by omega)
      obtain ⟨c1, c2⟩ := hc j hlt
      have hjl : j < fs.length := by rw [HL.out]; exact hlt
      have hwf := hl.wf _ (getD_mem hjl)
      have hst := faultsF_step fs j hjl
      have hle1 : (if RightF (fs.getD j (0, 0)) then 0 else 1 : Nat) ≤ 1 := by split <;> omega
      generalize fs.getD j (0, 0) = f at *
      obtain ⟨lo, hi⟩ := f
      simp only at hwf
      obtain ⟨⟨w1, w2⟩, w3, w4⟩ := hwf
      have HST := Lib.hid hst
      have hjlt : (j : Int) < (len : Int) := by omega
      clear hst hc
      have bal : Below wr.heap.size wr (wr.alloc (.cells #[.int .i64 lo, .int .i64 hi] 57)) := (Below.refl _ _).alloc (Nat.le_refl _) _
      go_wp2_with fail
      refine (faults_nat _ lo hi w1 w2 w3 w4).mono ?_
      rintro e w2 ⟨rfl, b2⟩
      have hby := hbel.trans ((bal.trans (b2.mono bal.size)).mono hbel.size)
      generalize hT : (if RightF (lo, hi) then 0 else 1 : Nat) = T at *
      go_wp2
      go_roundw
      case rel => exact ⟨j + 1, M + T, by omega, by omega, by go_num, by go_num, by show M + T = faultsF (fs.take (j + 1)); rw [HST.out, hMe.out], hby⟩
      case measure => simp [intOf]; omega
    · obtain rfl : j = len := by omega
      go_wp2
      go_ret
      have hm := hMe.out
      rw [List.take_of_length_le (by rw [HL.out]; omega)] at hm
      rw [← hm]
      exact ⟨rfl, hbel⟩
set_option maxHeartbeats 2000000 in
theorem sumwide_any (w : World) (a : Option Addr) (len cap : Nat) (fs : List (Int × Int)) (hr : ∀ f ∈ fs, RightF f) (hlen : len ≤ 40) (hl : FieldsAt w a len fs) :
    Calls Try.prog 26 #[.slice a len cap, .func (.func 33) #[] #[]] w fun e w' => e = .returned (.int .i64 (bitsF fs : Nat)) ∧ Below w.heap.size w w' := by
  have HL := Lib.hid hl.len_eq
  go_enter Try.func26, Try.ntmps26
  go_wp2
  go_loopw [5, 10] (fun n i wr => ∃ j M : Nat, j ≤ len ∧ M ≤ 16 * j ∧ i = .int .i64 (j : Int) ∧ n = .int .i64 (M : Int) ∧ Hid (M = bitsF (fs.take j)) ∧ Below w.heap.size w wr) (fun _ i _ => len - (intOf i).toNat)
  case atStart => exact ⟨0, 0, by omega, by omega, rfl, rfl, by simp [Hid, bitsF], Below.refl _ _⟩
  case round =>
    obtain ⟨j, M, hj, hM, rfl, rfl, hMe, hbel⟩ := hrel
    by_cases hlt : j < len
    · obtain ⟨b, off, rfl, hb, hc⟩ := (hl.mono hbel).at_.resolve_left (by omega)
      obtain ⟨c1, c2⟩ := hc j hlt
      have hjl : j < fs.length := by rw [HL.out]; exact hlt
      have hwf := hl.wf _ (getD_mem hjl)
      have hst := bitsF_step fs j hjl
      have hrf := hr _ (getD_mem hjl)
      have hle1 := wideF_le _ hrf
      generalize fs.getD j (0, 0) = f at *
      obtain ⟨lo, hi⟩ := f
      simp only at hwf
      obtain ⟨⟨w1, w2⟩, w3, w4⟩ := hwf
      have HST := Lib.hid hst
      have hjlt : (j : Int) < (len : Int) := by omega
      clear hst hc
      have bal : Below wr.heap.size wr (wr.alloc (.cells #[.int .i64 lo, .int .i64 hi] 57)) := (Below.refl _ _).alloc (Nat.le_refl _) _
      go_wp2_with fail
      refine (spanwide_any _ lo hi hrf).mono ?_
      rintro e w2 ⟨rfl, b2⟩
      have hby := hbel.trans ((bal.trans (b2.mono bal.size)).mono hbel.size)
      generalize hT : wideF (lo, hi) = T at *
      go_wp2
      go_roundw
      case rel => exact ⟨j + 1, M + T, by omega, by omega, by go_num, by go_num, by show M + T = bitsF (fs.take (j + 1)); rw [HST.out, hMe.out], hby⟩
      case measure => simp [intOf]; omega
    · obtain rfl : j = len := by omega
      go_wp2
      go_ret
      have hm := hMe.out
      rw [List.take_of_length_le (by rw [HL.out]; omega)] at hm
      rw [← hm]
      exact ⟨rfl, hbel⟩
end Go.Proofs.Ytblipgmllpniaaa
