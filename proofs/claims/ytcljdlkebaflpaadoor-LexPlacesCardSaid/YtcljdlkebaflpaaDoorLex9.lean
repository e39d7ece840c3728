/- The document's Same, at equal rows; the document's Tokens: its pure form is lexL. -/
import Derived.Test.YtcljdlkebaflpaaDoorLex8
namespace Go.Proofs.YtcljdlkebaflpaaDoor
open Go.RowKit
set_option linter.unusedVariables false

theorem same_nil (w : World) : Calls Tryd.prog 15 #[.slice none 0 0, .slice none 0 0] w fun e w' => e = .returned (.bool true) ∧ Below w.heap.size w w' := by
  go_enter Tryd.func15, Tryd.ntmps15
  go_wp2_with fail
  go_loop [5] (fun x => x = .int .i64 0) (fun _ => 0)
  case atStart => rfl
  case round =>
    subst hrel
    go_wp2_with fail
    go_ret
    exact ⟨rfl, Below.refl _ _⟩
theorem same_eq (w : World) (ga gb ca cb : Nat) (ts : List Tok) (ta : TokAt w ga ts) (tb : TokAt w gb ts) (hl : ts.length ≤ 9223372036854775807) :
    Calls Tryd.prog 15 #[.slice (some ⟨ga, 0, none⟩) ts.length ca, .slice (some ⟨gb, 0, none⟩) ts.length cb] w fun e w' => e = .returned (.bool true) ∧ Below w.heap.size w w' := by
  have e0 : ((ts.length : Int) != (ts.length : Int)) = false := by simp
  go_enter Tryd.func15, Tryd.ntmps15
  go_wp2_with fail
  go_loopw [5] (fun i w' => ∃ j : Nat, j ≤ ts.length ∧ i = .int .i64 (j : Nat) ∧ Below w.heap.size w w') (fun i _ => ts.length - (intOf i).toNat)
  case atStart => exact ⟨0, Nat.zero_le _, rfl, Below.refl _ _⟩
  case round =>
    obtain ⟨j, hj, rfl, bel⟩ := hrel
    replace ta := ta.mono bel
    replace tb := tb.mono bel
    have la := ta.lt
    have lb := tb.lt
    by_cases hlt : j < ts.length
    · have f1 : decide (j < ts.length) = true := by simpa using hlt
      have hu : ts[j]? = some (ts[j]'hlt) := List.getElem?_eq_getElem _
      obtain ⟨⟨kd, txt, n, p⟩, hv⟩ : ∃ u, ts[j]'hlt = u := ⟨_, rfl⟩
      rw [hv] at hu
      obtain ⟨a0, a1, a2, a3⟩ := ta.at_ j _ hu
      obtain ⟨c0, c1, c2, c3⟩ := tb.at_ j _ hu
      simp only [] at a0 a1 a2 a3 c0 c1 c2 c3
      go_wp2_with fail
      go_quiet (fail)
      go_wp2_with fail
      refine ⟨⟨j + 1, by omega, by simp, bel.trans (below_drewN (Below.refl _ _) _)⟩, by simp [intOf]; omega⟩
    · have f1 : decide (j < ts.length) = false := by simpa using hlt
      go_wp2_with fail
      go_ret
      exact ⟨rfl, bel⟩
end Go.Proofs.YtcljdlkebaflpaaDoor
