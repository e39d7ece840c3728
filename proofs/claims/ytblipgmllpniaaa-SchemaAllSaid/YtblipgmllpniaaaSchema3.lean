/- Rows of ranges: contracts of the document's Bytes, Right. -/
import Derived.Test.YtblipgmllpniaaaSchema2
import Derived.Deep.QuietTactic
import Derived.BigQuiet
namespace Go.Proofs.Ytblipgmllpniaaa
open Go.RowKit
set_option linter.unusedVariables false

/-- How many bytes ranges have. -/
def bytesF (fs : List (Int × Int)) : Nat := if bitsF fs = 0 then 1 else (bitsF fs + 7) / 8
theorem refbytes_any (w : World) (a : Option Addr) (len cap : Nat) (fs : List (Int × Int)) (hr : ∀ f ∈ fs, RightF f) (hlen : len ≤ 40) (hl : FieldsAt w a len fs) :
    Calls Try.prog 21 #[.slice a len cap] w fun e w' => e = .returned (.int .i64 (bytesF fs : Nat)) ∧ Below w.heap.size w w' := by
  have hle := bitsF_le fs hr fs.length (Nat.le_refl _)
  rw [List.take_length, hl.len_eq] at hle
  obtain ⟨B, hB⟩ : ∃ B, B = bitsF fs := ⟨_, rfl⟩
  rw [← hB] at hle
  by_cases h0 : B = 0
  · have e1 : bytesF fs = 1 := by unfold bytesF; rw [← hB, if_pos h0]
    rw [e1]
    have HB := Lib.hid hB
    clear hB e1
    subst h0
    go_enter Try.func21, Try.ntmps21
    go_wp2_with fail
    refine (refbits_any _ a len cap fs hr hlen hl).mono ?_
    rintro e w1 ⟨rfl, b1⟩
    rw [← HB.out]
    go_wp2
    go_ret
    exact ⟨rfl, b1⟩
  · have e1 : bytesF fs = (B + 7) / 8 := by unfold bytesF; rw [← hB, if_neg h0]
    rw [e1]
    obtain ⟨q, hq⟩ : ∃ q, (B + 7) / 8 = q := ⟨_, rfl⟩
    have hqi : ((B : Int) + 7) / 8 = (q : Int) := by omega
    rw [hq]
    have HB := Lib.hid hB
    have hne : ((B : Int) == 0) = false := by simp; omega
    clear hB e1 hq
    go_enter Try.func21, Try.ntmps21
    go_wp2_with fail
    refine (refbits_any _ a len cap fs hr hlen hl).mono ?_
    rintro e w1 ⟨rfl, b1⟩
    rw [← HB.out]
    go_wp2
    go_ret
    exact ⟨ret_int (by omega), b1⟩
/-- Are ranges right? -/
def RightS2 (fs : List (Int × Int)) : Prop := 1 ≤ fs.length ∧ fs.length ≤ 17 ∧ ∀ f ∈ fs, RightF f
instance (fs : List (Int × Int)) : Decidable (RightS2 fs) := by unfold RightS2; infer_instance
theorem refright2_len (w : World) (a : Option Addr) (len cap : Nat) (h : len < 1 ∨ 17 < len) (hs : len ≤ 9223372036854775807) :
    Calls Try.prog 10 #[.slice a len cap] w fun e w' => e = .returned (.bool false) ∧ Below w.heap.size w w' := by
  by_cases h1 : len < 1
  · have d1 : decide ((len : Int) < 1) = true := by simp; omega
    have d2 : decide (len < 1) = true := by simpa using h1
    clear h
    go_enter Try.func10, Try.ntmps10
    go_wp2
    go_ret
    exact ⟨rfl, Below.refl _ _⟩
  · have d1 : decide ((len : Int) < 1) = false := by simp; omega
    have d2 : decide (len < 1) = false := by simpa using h1
    have d3 : decide ((17 : Int) < (len : Int)) = true := by simp; omega
    have d4 : decide (17 < len) = true := by simp; omega
    clear h
    go_enter Try.func10, Try.ntmps10
    go_wp2
    go_ret
    exact ⟨rfl, Below.refl _ _⟩
set_option maxHeartbeats 4000000 in
theorem refright2_in (w : World) (a : Option Addr) (len cap : Nat) (fs : List (Int × Int)) (h1 : 1 ≤ len) (h2 : len ≤ 17) (hl : FieldsAt w a len fs) :
    Calls Try.prog 10 #[.slice a len cap] w fun e w' => e = .returned (.bool (decide (∀ f ∈ fs, RightF f))) ∧ Below w.heap.size w w' := by
  have d1 : decide ((len : Int) < 1) = false := by simp; omega
  have d2 : decide (len < 1) = false := by simp; omega
  have d3 : decide ((17 : Int) < (len : Int)) = false := by simp; omega
  have d4 : decide (17 < len) = false := by simp; omega
  have HL := Lib.hid hl.len_eq
  obtain ⟨D, hD⟩ : ∃ D, D = decide (∀ f ∈ fs, RightF f) := ⟨_, rfl⟩
  rw [← hD]
  have HD := Lib.hid hD
  clear hD
  go_enter Try.func10, Try.ntmps10
  go_wp2
  go_loopw [3] (fun i wr => ∃ j : Nat, j ≤ len ∧ i = .int .i64 (j : Int) ∧ Hid (∀ k, k < j → RightF (fs.getD k (0, 0))) ∧ Below w.heap.size w wr) (fun i _ => len - (intOf i).toNat)
  case atStart => exact ⟨0, by omega, rfl, fun k hk => by omega, Below.refl _ _⟩
  case round =>
    obtain ⟨j, hj, rfl, hall, hbel⟩ := hrel
    by_cases hlt : j < len
    · obtain ⟨b, off, rfl, hb, hc⟩ := (hl.mono hbel).at_.resolve_left (by omega)
      obtain ⟨c1, c2⟩ := hc j hlt
      have hjl : j < fs.length := by rw [HL.out]; exact hlt
      have hmem := getD_mem hjl
      have hwf := hl.wf _ hmem
      have hcase : RightF (fs.getD j (0, 0)) ∨ ¬ RightF (fs.getD j (0, 0)) := Decidable.em _
      have hjlt : (j : Int) < (len : Int) := by omega
      have hfa : ¬ RightF (fs.getD j (0, 0)) → D = false := fun hn => by rw [HD.out, decide_eq_false_iff_not]; exact fun h => hn (h _ hmem)
      have htr : RightF (fs.getD j (0, 0)) → ∀ k, k < j + 1 → RightF (fs.getD k (0, 0)) := fun ht k hk => by
        by_cases e : k = j
        · rw [e]; exact ht
        · exact hall.out k (by omega)
      generalize fs.getD j (0, 0) = f at *
      obtain ⟨lo, hi⟩ := f
      simp only at c1 c2 hwf
      obtain ⟨⟨w1, w2⟩, w3, w4⟩ := hwf
      clear hc hmem
      by_cases g1 : hi < lo
      · have e1 : decide (hi < lo) = true := by simpa using g1
        have hDf := hfa (by unfold RightF; simp; omega)
        clear hfa htr hcase
        go_wp2
        go_quiet (fail)
        go_wp2
        go_ret
        rw [hDf]
        exact ⟨rfl, hbel.trans (below_drewN (Below.refl _ _) _)⟩
      have e1 : decide (hi < lo) = false := by simpa using g1
      by_cases g2 : lo < -1073741824
      · have e2 : decide (lo < -1073741824) = true := by simpa using g2
        have hDf := hfa (by unfold RightF; simp; omega)
        clear hfa htr hcase
        go_wp2
        go_quiet (fail)
        go_wp2
        go_ret
        rw [hDf]
        exact ⟨rfl, hbel.trans (below_drewN (Below.refl _ _) _)⟩
      have e2 : decide (lo < -1073741824) = false := by simpa using g2
      by_cases g3 : 1073741824 < hi
      · have e3 : decide (1073741824 < hi) = true := by simpa using g3
        have hDf := hfa (by unfold RightF; simp; omega)
        clear hfa htr hcase
        go_wp2
        go_quiet (fail)
        go_wp2
        go_ret
        rw [hDf]
        exact ⟨rfl, hbel.trans (below_drewN (Below.refl _ _) _)⟩
      have e3 : decide (1073741824 < hi) = false := by simpa using g3
      obtain ⟨d, hd⟩ : ∃ d : Nat, hi - lo = (d : Int) := ⟨(hi - lo).toNat, by omega⟩
      have hdb : d ≤ 2147483648 := by omega
      by_cases g4 : 65535 < d
      · have e4 : decide ((65535 : Int) < (d : Int)) = true := by simp; omega
        have e4' : decide (65535 < d) = true := by simpa using g4
        have hDf := hfa (by unfold RightF; simp; omega)
        clear hfa htr hcase
        go_wp2
        go_quiet (fail)
        go_wp2
        go_ret
        rw [hDf]
        exact ⟨rfl, hbel.trans (below_drewN (Below.refl _ _) _)⟩
      · have e4 : decide ((65535 : Int) < (d : Int)) = false := by simp; omega
        have e4' : decide (65535 < d) = false := by simpa using g4
        have hnext := htr (by unfold RightF; simp; omega)
        clear hfa htr hcase
        have HNX := Lib.hid hnext
        clear hnext
        go_wp2
        go_quiet (fail)
        go_wp2
        go_roundw
        case rel => exact ⟨j + 1, by omega, by go_num, HNX.out, hbel.trans (below_drewN (Below.refl _ _) _)⟩
        case measure => simp [intOf]; omega
    · obtain rfl : j = len := by omega
      have hDt : D = true := by
        rw [HD.out, decide_eq_true_iff]
        intro f hf
        obtain ⟨k, hk, rfl⟩ := List.mem_iff_getElem.1 hf
        have := hall.out k (by rw [← HL.out]; exact hk)
        simpa [hk] using this
      go_wp2
      go_ret
      rw [hDt]
      exact ⟨rfl, hbel⟩
end Go.Proofs.Ytblipgmllpniaaa
