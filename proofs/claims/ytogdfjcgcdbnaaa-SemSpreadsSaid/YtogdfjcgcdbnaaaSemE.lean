/- sem.All on all formulas; what stands around it (by gen17i.py). -/
import Derived.Test.YtogdfjcgcdbnaaaSemDA
import Derived.Test.YtogdfjcgcdbnaaaSemDB
import Derived.Test.YtogdfjcgcdbnaaaSemDC
import Derived.Test.YtogdfjcgcdbnaaaSemDD
import Derived.Test.YtogdfjcgcdbnaaaSemDE
namespace Go.Proofs.Ytogdfjcgcdbnaaa
open Go.RowKit
set_option linter.unusedVariables false
set_option linter.unusedSimpArgs false
theorem all_any : ∀ t, AllOK t := by
  intro t
  induction t with
  | nil => exact fun w v wa wn wk l row h => h.elim
  | node op n pl len sub ih =>
    by_cases hop : op < 15
    · exact all_lit op n pl len sub hop
    · intro w v wa wn wk l row h hr hf hwn hl
      have h1 : 1 ≤ op := hf.1.1
      have h2 : op ≤ 24 := hf.1.2.1
      rcases (by omega : op = 15 ∨ op = 16 ∨ op = 17 ∨ op = 18 ∨ op = 19 ∨ op = 20 ∨ op = 21 ∨ op = 22 ∨ op = 23 ∨ op = 24) with rfl | rfl | rfl | rfl | rfl | rfl | rfl | rfl | rfl | rfl
      · exact all_15 n pl len sub ih w v wa wn wk l row h hr hf hwn hl
      · exact all_16 n pl len sub ih w v wa wn wk l row h hr hf hwn hl
      · exact all_17 n pl len sub ih w v wa wn wk l row h hr hf hwn hl
      · exact all_18 n pl len sub ih w v wa wn wk l row h hr hf hwn hl
      · exact all_19 n pl len sub ih w v wa wn wk l row h hr hf hwn hl
      · exact all_20 n pl len sub ih w v wa wn wk l row h hr hf hwn hl
      · exact all_21 n pl len sub ih w v wa wn wk l row h hr hf hwn hl
      · exact all_22 n pl len sub ih w v wa wn wk l row h hr hf hwn hl
      · exact all_23 n pl len sub ih w v wa wn wk l row h hr hf hwn hl
      · exact all_24 n pl len sub ih w v wa wn wk l row h hr hf hwn hl
theorem right_any (w : World) (wa : Option Addr) (wn wk : Nat) (L : Int) (h1 : wn ≤ 9223372036854775807) :
    Calls Try.prog 26 #[.agg #[.slice wa wn wk, .int .i64 L]] w fun e w' => e = .returned (.bool (decide (0 ≤ L ∧ L < wn))) ∧ Below w.heap.size w w' := by
  have A := (Below.refl w.heap.size w).alloc (Nat.le_refl _) (.cells #[.slice wa wn wk, .int .i64 L] 27)
  have pt : (w.alloc (.cells #[.slice wa wn wk, .int .i64 L] 27)).heap[w.heap.size]? = some (.cells #[.slice wa wn wk, .int .i64 L] 27 (0, 0)) := heap_alloc_new _ _
  go_enter Try.func26, Try.ntmps26
  go_upto_region 1 with fail
  obtain ⟨v1, hv⟩ : ∃ v, w.alloc (.cells #[.slice wa wn wk, .int .i64 L] 27) = v := ⟨_, rfl⟩
  obtain ⟨gt, hg⟩ : ∃ g, w.heap.size = g := ⟨_, rfl⟩
  rw [hv] at pt A ⊢
  rw [hg] at pt ⊢
  have bt := A
  have hgw : w.heap.size ≤ gt := Nat.le_of_eq hg
  clear hv hg A
  have c0 : v1.cell? ⟨gt, 0, none⟩ = some (.slice wa wn wk) := cell_of_row _ _ 0 _ _ _ pt
  have c1 : v1.cell? ⟨gt, 1, none⟩ = some (.int .i64 L) := cell_of_row _ _ 1 _ _ _ pt
  by_cases h : 0 ≤ L
  · have f1 : decide (0 ≤ L) = true := by simpa using h
    by_cases h2 : L < wn
    · have f2 : decide (L < (wn : Int)) = true := by simpa using h2
      have H := Lib.hid (show decide (0 ≤ L ∧ L < wn) = true by simp; omega)
      clear h h2
      go_wp2_with fail
      go_ret
      exact ⟨by rw [H.out]; rfl, bt⟩
    · have f2 : decide (L < (wn : Int)) = false := by simpa using h2
      have H := Lib.hid (show decide (0 ≤ L ∧ L < wn) = false by simp; omega)
      clear h h2
      go_wp2_with fail
      go_ret
      exact ⟨by rw [H.out]; rfl, bt⟩
  · have f1 : decide (0 ≤ L) = false := by simpa using h
    have H := Lib.hid (show decide (0 ≤ L ∧ L < wn) = false by simp; omega)
    clear h
    go_wp2_with fail
    go_ret
    exact ⟨by rw [H.out]; rfl, bt⟩
theorem refRight_any (w : World) (wa : Option Addr) (wn wk : Nat) (L : Int) (h1 : wn ≤ 9223372036854775807) :
    Calls Try.prog 9 #[.agg #[.slice wa wn wk, .int .i64 L]] w fun e w' => e = .returned (.bool (decide (1 ≤ wn ∧ 0 ≤ L ∧ L < wn))) ∧ Below w.heap.size w w' := by
  have A := (Below.refl w.heap.size w).alloc (Nat.le_refl _) (.cells #[.slice wa wn wk, .int .i64 L] 27)
  have pt : (w.alloc (.cells #[.slice wa wn wk, .int .i64 L] 27)).heap[w.heap.size]? = some (.cells #[.slice wa wn wk, .int .i64 L] 27 (0, 0)) := heap_alloc_new _ _
  go_enter Try.func9, Try.ntmps9
  go_upto_region 1 with fail
  obtain ⟨v1, hv⟩ : ∃ v, w.alloc (.cells #[.slice wa wn wk, .int .i64 L] 27) = v := ⟨_, rfl⟩
  obtain ⟨gt, hg⟩ : ∃ g, w.heap.size = g := ⟨_, rfl⟩
  rw [hv] at pt A ⊢
  rw [hg] at pt ⊢
  have bt := A
  have hgw : w.heap.size ≤ gt := Nat.le_of_eq hg
  clear hv hg A
  have c0 : v1.cell? ⟨gt, 0, none⟩ = some (.slice wa wn wk) := cell_of_row _ _ 0 _ _ _ pt
  have c1 : v1.cell? ⟨gt, 1, none⟩ = some (.int .i64 L) := cell_of_row _ _ 1 _ _ _ pt
  by_cases h0 : 1 ≤ wn
  · have f0 : decide (1 ≤ wn) = true := by simpa using h0
    have f00 : decide ((1 : Int) ≤ (wn : Int)) = true := by simp; omega
    by_cases h : 0 ≤ L
    · have f1 : decide (0 ≤ L) = true := by simpa using h
      by_cases h2 : L < wn
      · have f2 : decide (L < (wn : Int)) = true := by simpa using h2
        have H := Lib.hid (show decide (1 ≤ wn ∧ 0 ≤ L ∧ L < wn) = true by simp; omega)
        clear h0 h h2
        go_wp2_with fail
        go_ret
        exact ⟨by rw [H.out]; rfl, bt⟩
      · have f2 : decide (L < (wn : Int)) = false := by simpa using h2
        have H := Lib.hid (show decide (1 ≤ wn ∧ 0 ≤ L ∧ L < wn) = false by simp; omega)
        clear h0 h h2
        go_wp2_with fail
        go_ret
        exact ⟨by rw [H.out]; rfl, bt⟩
    · have f1 : decide (0 ≤ L) = false := by simpa using h
      have H := Lib.hid (show decide (1 ≤ wn ∧ 0 ≤ L ∧ L < wn) = false by simp; omega)
      clear h0 h
      go_wp2_with fail
      go_ret
      exact ⟨by rw [H.out]; rfl, bt⟩
  · have f0 : decide (1 ≤ wn) = false := by simpa using h0
    have f00 : decide ((1 : Int) ≤ (wn : Int)) = false := by simp; omega
    have H := Lib.hid (show decide (1 ≤ wn ∧ 0 ≤ L ∧ L < wn) = false by simp; omega)
    clear h0
    go_wp2_with fail
    go_ret
    exact ⟨by rw [H.out]; rfl, bt⟩
theorem refNext_any (w : World) (wa : Option Addr) (wn wk l i : Nat) (hi : i < wn) (hwn : wn ≤ 1000000) :
    Calls Try.prog 15 #[.agg #[.slice wa wn wk, .int .i64 (l : Nat)], .int .i64 (i : Nat)] w fun e w' => e = .returned (.int .i64 (nextW wn l i : Nat)) ∧ Below w.heap.size w w' := by
  have A := (Below.refl w.heap.size w).alloc (Nat.le_refl _) (.cells #[.slice wa wn wk, .int .i64 (l : Nat)] 27)
  have pt : (w.alloc (.cells #[.slice wa wn wk, .int .i64 (l : Nat)] 27)).heap[w.heap.size]? = some (.cells #[.slice wa wn wk, .int .i64 (l : Nat)] 27 (0, 0)) := heap_alloc_new _ _
  go_enter Try.func15, Try.ntmps15
  go_upto_region 1 with fail
  obtain ⟨v1, hv⟩ : ∃ v, w.alloc (.cells #[.slice wa wn wk, .int .i64 (l : Nat)] 27) = v := ⟨_, rfl⟩
  obtain ⟨gt, hg⟩ : ∃ g, w.heap.size = g := ⟨_, rfl⟩
  rw [hv] at pt A ⊢
  rw [hg] at pt ⊢
  have bt := A
  have hgw : w.heap.size ≤ gt := Nat.le_of_eq hg
  clear hv hg A
  have c0 : v1.cell? ⟨gt, 0, none⟩ = some (.slice wa wn wk) := cell_of_row _ _ 0 _ _ _ pt
  have c1 : v1.cell? ⟨gt, 1, none⟩ = some (.int .i64 (l : Nat)) := cell_of_row _ _ 1 _ _ _ pt
  by_cases h : i + 1 < wn
  · have f1 : decide ((i : Int) = (wn : Int) - 1) = false := by simp; omega
    have f2 : ((i : Int) == (wn : Int) - 1) = false := by simp; omega
    have H := Lib.hid h
    clear h
    go_wp2_with fail
    go_ret
    exact ⟨by unfold nextW; rw [if_pos H.out]; simp, bt⟩
  · have f1 : decide ((i : Int) = (wn : Int) - 1) = true := by simp; omega
    have f2 : ((i : Int) == (wn : Int) - 1) = true := by simp; omega
    have H := Lib.hid h
    clear h
    go_wp2_with fail
    go_ret
    exact ⟨by unfold nextW; rw [if_neg H.out]; rfl, bt⟩
def FewW (wn : Nat) (row : Nat → List Int) (e : Ending) : Prop := ∃ b : Bool, e = .returned (.bool b)
theorem fewW_any (w : World) (wa : Option Addr) (wn wk : Nat) (L : Int) (row : Nat → List Int) (hr : WordAt w wa wn row) (hwn : wn ≤ 1000000) :
    Calls Try.prog 8 #[.agg #[.slice wa wn wk, .int .i64 L]] w fun e w' => FewW wn row e ∧ Below w.heap.size w w' := by
  have A := (Below.refl w.heap.size w).alloc (Nat.le_refl _) (.cells #[.slice wa wn wk, .int .i64 L] 27)
  have pt : (w.alloc (.cells #[.slice wa wn wk, .int .i64 L] 27)).heap[w.heap.size]? = some (.cells #[.slice wa wn wk, .int .i64 L] 27 (0, 0)) := heap_alloc_new _ _
  go_enter Try.func8, Try.ntmps8
  go_upto_region 1 with fail
  obtain ⟨v1, hv⟩ : ∃ v, w.alloc (.cells #[.slice wa wn wk, .int .i64 L] 27) = v := ⟨_, rfl⟩
  obtain ⟨gt, hg⟩ : ∃ g, w.heap.size = g := ⟨_, rfl⟩
  rw [hv] at pt A ⊢
  rw [hg] at pt ⊢
  have bt := A
  have hgw : w.heap.size ≤ gt := Nat.le_of_eq hg
  clear hv hg A
  go_wp2_with fail
  go_loopw [3] (fun i w' => ∃ j : Nat, j ≤ wn ∧ i = .int .i64 (j : Nat) ∧ w'.heap[gt]? = some (.cells #[.slice wa wn wk, .int .i64 L] 27 (0, 0)) ∧ Below w.heap.size w w') (fun i _ => wn - (intOf i).toNat)
  case atStart => exact ⟨0, Nat.zero_le _, rfl, pt, bt⟩
  case round =>
    clear pt bt
    obtain ⟨j, hj, rfl, pt, bt⟩ := hrel
    have c0 : wr.cell? ⟨gt, 0, none⟩ = some (.slice wa wn wk) := cell_of_row _ _ 0 _ _ _ pt
    have c1 : wr.cell? ⟨gt, 1, none⟩ = some (.int .i64 L) := cell_of_row _ _ 1 _ _ _ pt
    by_cases hjn : j < wn
    · have f1 : decide (j < wn) = true := by simpa using hjn
      obtain ⟨b, off, rfl, hlt, hi⟩ := hr.resolve_left (by omega)
      obtain ⟨ra, rl, rc, hc, hints⟩ := hi j hjn
      have hc2 : wr.cell? ⟨b, off + j, none⟩ = some (.slice ra rl rc) := (bt.cell (p := ⟨b, _, none⟩) hlt).trans hc
      have hsm := hints.small
      clear hc hi
      by_cases h10 : 10 < rl
      · have f2 : decide (10 < rl) = true := by simpa using h10
        have f3 : decide ((10 : Int) < (rl : Int)) = true := by simp; omega
        go_wp2_with fail
        go_ret
        exact ⟨⟨false, rfl⟩, bt⟩
      · have f2 : decide (10 < rl) = false := by simpa using h10
        have f3 : decide ((10 : Int) < (rl : Int)) = false := by simp; omega
        go_wp2_with fail
        exact ⟨⟨j + 1, by omega, by simp, pt, bt⟩, by simp [intOf]; omega⟩
    · have f1 : decide (j < wn) = false := by simpa using hjn
      go_wp2_with fail
      go_ret
      exact ⟨⟨true, rfl⟩, bt⟩
end Go.Proofs.Ytogdfjcgcdbnaaa
