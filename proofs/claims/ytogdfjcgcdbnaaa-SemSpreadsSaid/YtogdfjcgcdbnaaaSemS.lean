/- Two rows of answers that are the same (by gen17u.py). -/
import Derived.Test.YtogdfjcgcdbnaaaSemH
namespace Go.Proofs.Ytogdfjcgcdbnaaa
open Go.RowKit
set_option linter.unusedVariables false
set_option linter.unusedSimpArgs false
theorem alls_at (t : T) (w : World) (v : Value) (wa : Option Addr) (wn wc l : Nat) (row : Nat → List Int) (h : TreeAt w t v) (hr : WordAt w wa wn row) (hf : FmP t) (hwn : wn ≤ 1000000) (hl : l < wn) :
    Calls Try.prog 11 #[v, .agg #[.slice wa wn wc, .int .i64 (l : Nat)]] w fun e w' => BoolsOut w wn (hT wn l row t) e w' ∧ Below w.heap.size w w' := all_any t w v wa wn wc l row h hr hf hwn hl
theorem same_any (w : World) (ga gb wn : Nat) (f g : Nat → Bool) (hwn : wn ≤ 1000000) (hra : BoolsAt w ga wn f) (hrb : BoolsAt w gb wn g) (hfg : ∀ i, i < wn → f i = g i) :
    Calls Try.prog 23 #[.slice (some ⟨ga, 0, none⟩) wn wn, .slice (some ⟨gb, 0, none⟩) wn wn] w fun e w' => e = .returned (.bool true) ∧ Below w.heap.size w w' := by
  have RA := Lib.hid hra
  have RB := Lib.hid hrb
  have b0 := Below.refl w.heap.size w
  clear hra hrb
  go_enter Try.func23, Try.ntmps23
  go_wp2_with fail
  go_loopw [5] (fun i w' => ∃ j : Nat, j ≤ wn ∧ i = .int .i64 (j : Nat) ∧ Below w.heap.size w w') (fun i _ => wn - (intOf i).toNat)
  case atStart => exact ⟨0, Nat.zero_le _, rfl, b0⟩
  case round =>
    clear b0
    obtain ⟨j, hj, rfl, hb⟩ := hrel
    by_cases hjn : j < wn
    · have f1 : decide (j < wn) = true := by simpa using hjn
      have k1 := cell_later (World.rowIs.cell (RA.out.mono hb) hjn)
      have k2 := cell_later (World.rowIs.cell (RB.out.mono hb) hjn)
      have hx := hfg j hjn
      obtain ⟨X, hX⟩ : ∃ X, f j = X := ⟨_, rfl⟩
      rw [hX] at k1 hx
      rw [← hx] at k2
      clear hX hx
      cases X
      all_goals
        go_wp2_with fail
        refine wp_region_later wr.heap.size wr (by kernel_rfl) (by kernel_rfl) (Below.refl _ _) ?_
        repeat (go_big_quiet_step (fail))
        refine wpQuiet_nil ?_
        intro _ hlat
        obtain ⟨z, rfl⟩ := hlat
        go_wp2_with fail
        exact ⟨⟨j + 1, by omega, by simp, below_then hb z.below⟩, by simp [intOf]; omega⟩
    · have f1 : decide (j < wn) = false := by simpa using hjn
      go_wp2_with fail
      go_ret
      exact ⟨rfl, hb⟩
end Go.Proofs.Ytogdfjcgcdbnaaa
