/- Contract of the document's In. -/
import Derived.Test.YtblipgmllpniaaaSchema3
namespace Go.Proofs.Ytblipgmllpniaaa
open Go.RowKit
set_option linter.unusedVariables false

/-- Are all numbers in their ranges? -/
def AllIn (fs : List (Int × Int)) (vs : List Int) : Prop := ∀ k, k < fs.length → hasF (fs.getD k (0, 0)) (vs.getD k 0) = true
instance (fs : List (Int × Int)) (vs : List Int) : Decidable (AllIn fs vs) := by unfold AllIn; infer_instance
/-- Why a vector is not of these ranges. -/
def inS (fs : List (Int × Int)) (vs : List Int) : Int := if vs.length ≠ fs.length then 1 else if AllIn fs vs then 0 else 5
set_option maxHeartbeats 4000000 in
theorem refin_any (w : World) (a : Option Addr) (len cap : Nat) (b : Option Addr) (len' cap' : Nat) (fs : List (Int × Int)) (vs : List Int) (hlen : len ≤ 1000) (hl : FieldsAt w a len fs) (hv : IntsAt w b len' vs) :
    Calls Try.prog 23 #[.slice a len cap, .slice b len' cap'] w fun e w' => e = .returned (.int .i64 (inS fs vs)) ∧ Below w.heap.size w w' := by
  have hsm := hv.small
  by_cases hne : len' = len
  case neg =>
    have e1 : inS fs vs = 1 := by unfold inS; rw [if_pos (by rw [hv.len_eq, hl.len_eq]; exact hne)]
    have d1 : ((len' : Int) != (len : Int)) = true := by simp; omega
    rw [e1]
    clear e1
    go_enter Try.func23, Try.ntmps23
    go_wp2
    go_ret
    exact ⟨rfl, Below.refl _ _⟩
  have d1 : ((len' : Int) != (len : Int)) = false := by simp; omega
  have HL := Lib.hid hl.len_eq
  have HV := Lib.hid hv.len_eq
  have hle : len ≤ len' := by omega
  have hle' : len' ≤ len := by omega
  obtain ⟨D, hD⟩ : ∃ D, D = inS fs vs := ⟨_, rfl⟩
  rw [← hD]
  have hno : ¬ AllIn fs vs → D = 5 := fun hn => by rw [hD]; unfold inS; rw [if_neg (by rw [HV.out, HL.out]; omega), if_neg hn]
  have hyes : AllIn fs vs → D = 0 := fun hn => by rw [hD]; unfold inS; rw [if_neg (by rw [HV.out, HL.out]; omega), if_pos hn]
  clear hne hD
  go_enter Try.func23, Try.ntmps23
  go_wp2
  go_loopw [5] (fun i wr => ∃ j : Nat, j ≤ len ∧ i = .int .i64 (j : Int) ∧ Hid (∀ k, k < j → hasF (fs.getD k (0, 0)) (vs.getD k 0) = true) ∧ Below w.heap.size w wr) (fun i _ => len - (intOf i).toNat)
  case atStart => exact ⟨0, by omega, rfl, fun k hk => by omega, Below.refl _ _⟩
  case round =>
    obtain ⟨j, hj, rfl, hall, hbel⟩ := hrel
    by_cases hlt : j < len
    · obtain ⟨bk, off, rfl, hb, hc⟩ := (hl.mono hbel).at_.resolve_left (by omega)
      obtain ⟨bv, offv, rfl, hbv, hcv⟩ := (hv.mono hbel).at_.resolve_left (by omega)
      obtain ⟨c1, c2⟩ := hc j hlt
      have c3 := hcv j (by omega)
      have hjl : j < fs.length := by rw [HL.out]; exact hlt
      have hjlt : (j : Int) < (len : Int) := by omega
      have hjlt' : (j : Int) < (len' : Int) := by omega
      have hfa : ¬ hasF (fs.getD j (0, 0)) (vs.getD j 0) = true → D = 5 := fun hn => hno (fun h => hn (h j hjl))
      have htr : hasF (fs.getD j (0, 0)) (vs.getD j 0) = true → ∀ k, k < j + 1 → hasF (fs.getD k (0, 0)) (vs.getD k 0) = true := fun ht k hk => by
        by_cases e : k = j
        · rw [e]; exact ht
        · exact hall.out k (by omega)
      generalize fs.getD j (0, 0) = f at *
      generalize vs.getD j 0 = x at *
      obtain ⟨lo, hi⟩ := f
      simp only at c1 c2
      clear hc hcv
      by_cases g1 : x < lo
      · have e1 : decide (x < lo) = true := by simpa using g1
        have hDf := hfa (by unfold hasF; simp; omega)
        clear hfa htr hno hyes
        go_wp2
        go_quiet (fail)
        go_wp2
        go_ret
        rw [hDf]
        exact ⟨rfl, hbel.trans (below_drewN (Below.refl _ _) _)⟩
      have e1 : decide (x < lo) = false := by simpa using g1
      by_cases g2 : hi < x
      · have e2 : decide (hi < x) = true := by simpa using g2
        have hDf := hfa (by unfold hasF; simp; omega)
        clear hfa htr hno hyes
        go_wp2
        go_quiet (fail)
        go_wp2
        go_ret
        rw [hDf]
        exact ⟨rfl, hbel.trans (below_drewN (Below.refl _ _) _)⟩
      · have e2 : decide (hi < x) = false := by simpa using g2
        have HNX := Lib.hid (htr (by unfold hasF; simp; omega))
        clear hfa htr hno hyes
        go_wp2
        go_quiet (fail)
        go_wp2
        go_roundw
        case rel => exact ⟨j + 1, by omega, by go_num, HNX.out, hbel.trans (below_drewN (Below.refl _ _) _)⟩
        case measure => simp [intOf]; omega
    · have hDt : D = 0 := hyes (fun k hk => hall.out k (by rw [HL.out] at hk; omega))
      have hjl' : (len' : Int) ≤ (j : Int) := by omega
      clear hno hyes
      go_wp2
      go_ret
      rw [hDt]
      exact ⟨rfl, hbel⟩
end Go.Proofs.Ytblipgmllpniaaa
