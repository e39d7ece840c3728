/- What the rows' condition on the package's variable gives the walks. -/
import Derived.Test.YtcljdlkebaflpaaDoorFrame
import Derived.Test.YtcljdlkebaflpaaDoorLex2
import Derived.LaidMore
import Derived.OpenShut
import Derived.ChangeArms
import Derived.Stop.Joined
namespace Go.Proofs.YtcljdlkebaflpaaDoor
open Go.ChangeShapes Go.WideShapes Go.ChangeAt Go.WideMaps Go.WideElems Go.RowKit
set_option linter.unusedVariables false

def laid12 : List (String × DataW Unit) := [("scrutiny/lex.signs", Rows.laid_scrutiny_lex_signs)]
theorem gSigns : Tryd.prog.globalNamed "scrutiny/lex.signs" = some 0 := by kernel_rfl
theorem tSigns : (Tryd.prog.globals[0]?).map (·.type) = some 46 := by kernel_rfl
/-- The door's own heap meets the condition. -/
theorem door_met (os : Os) (args : Array Value) : laidMetH Tryd.prog laid12 ((World.doorLaid Tryd.prog 400 os).forCall (fun _ _ => 0) ⟨#[], args, []⟩).memory :=
  laidMetH_of_parts3 (fuel := 8) (laidMet_of_run' 8 (by kernel_rfl) (by kernel_rfl)) (by kernel_rfl) (by kernel_rfl)
theorem of_laid {W : World} (h : laidMetH Tryd.prog laid12 W) : Signed W := by
  rw [MakeChecks.laidMetH_plain _ _ _ (by kernel_rfl)] at h
  obtain ⟨ps, ⟨g0, t0, cs0, f0, p0, q0, hg0, ht0, hv0, hd0, _⟩, _, _⟩ := h
  obtain rfl := Option.some.inj (gSigns.symm.trans hg0)
  obtain rfl := Option.some.inj (tSigns.symm.trans ht0)
  obtain ⟨xs, m, rfl, hx, hlen, hn, hel⟩ := DataW.trod_array Tryd.underlying46 hd0
  have c1 : Tryd.prog.cellsOf 9 = 1 := by kernel_rfl
  have c22 : Tryd.prog.cellsOf 46 = 22 := by kernel_rfl
  rw [c22] at hlen
  simp only [c1, Nat.mul_one] at hel
  have hcz : cs0.size = 22 := by simpa using hlen
  simp only [Prod.mk.injEq] at hx
  have hxs : xs.map (·.1) = signL.map fun l => (DataW.lit (.string l) : DataW Unit) := by
    have := hx.1
    unfold Rows.laid_scrutiny_lex_signs at this
    injection this with this
    exact this.symm
  have hcs : cs0 = signCells := by
    apply Array.ext'
    apply List.ext_getElem?
    intro i
    by_cases hi : i < 22
    · have hz : i < signL.length := hi
      have hxi : i < xs.length := by omega
      have h1 := hel i hi
      rw [List.getElem?_eq_getElem hxi] at h1
      obtain ⟨s, e1, e2, _⟩ := DataW.trod_string Tryd.underlying9 h1
      have e3 := congrArg (fun l => l[i]?) hxs
      simp only [List.getElem?_map, List.getElem?_eq_getElem hxi, List.getElem?_eq_getElem hz, Option.map_some, e2] at e3
      have e4 : s.data.toList = signL[i] := by simpa using e3
      have e5 : cs0.toList[i]? = some (.string s) := by
        have := congrArg (fun l => l[0]?) e1
        simpa [List.getElem?_take, List.getElem?_drop] using this
      rw [e5]
      have e6 : s = ⟨signL[i].toArray⟩ := by rw [← e4]
      rw [e6]
      simp [signCells, hz]
    · rw [List.getElem?_eq_none (by rw [Array.length_toList]; omega), List.getElem?_eq_none (by show signL.length ≤ i; exact Nat.not_lt.1 hi)]
  subst hcs
  simp only [World.var?, hg0, Option.bind_some] at hv0
  split at hv0
  · rename_i c t fr hb
    cases hv0
    exact ⟨(Array.getElem?_eq_some_iff.1 hb).1, t, fr, hb⟩
  · cases hv0
end Go.Proofs.YtcljdlkebaflpaaDoor
