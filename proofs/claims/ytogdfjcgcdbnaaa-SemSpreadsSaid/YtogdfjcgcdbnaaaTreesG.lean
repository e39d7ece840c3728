/- What trees come to: the program's Eval on trees of numbers and comparisons. -/
import Derived.Test.YtogdfjcgcdbnaaaTreesFA
import Derived.Test.YtogdfjcgcdbnaaaTreesFB
import Derived.Test.YtogdfjcgcdbnaaaTreesFC
import Derived.Test.YtogdfjcgcdbnaaaTreesFD
import Derived.Test.YtogdfjcgcdbnaaaTreesFE
import Derived.Test.YtogdfjcgcdbnaaaTreesFF
import Derived.Test.YtogdfjcgcdbnaaaTreesFG
namespace Go.Proofs.Ytogdfjcgcdbnaaa
open Go.RowKit
set_option linter.unusedVariables false
theorem eval_any : ∀ t, EvalOK t := by
  intro t
  induction t with
  | nil => exact fun w v va vl vc V h => h.elim
  | node op n pl len sub ih =>
    intro w v va vl vc V h hV hm ht
    have h1 : 1 ≤ op := hm.1
    have h2 : op ≤ 14 := by
      rcases ht with h | h
      · have := (ty_int hm h).1; omega
      · exact h.2
    rcases (by omega : op = 1 ∨ op = 2 ∨ op = 3 ∨ op = 4 ∨ op = 5 ∨ op = 6 ∨ op = 7 ∨ op = 8 ∨ op = 9 ∨ op = 10 ∨ op = 11 ∨ op = 12 ∨ op = 13 ∨ op = 14) with rfl | rfl | rfl | rfl | rfl | rfl | rfl | rfl | rfl | rfl | rfl | rfl | rfl | rfl
    · exact eval_1 n pl len sub ih w v va vl vc V h hV hm ht
    · exact eval_2 n pl len sub ih w v va vl vc V h hV hm ht
    · exact eval_3 n pl len sub ih w v va vl vc V h hV hm ht
    · exact eval_4 n pl len sub ih w v va vl vc V h hV hm ht
    · exact eval_5 n pl len sub ih w v va vl vc V h hV hm ht
    · exact eval_6 n pl len sub ih w v va vl vc V h hV hm ht
    · exact eval_7 n pl len sub ih w v va vl vc V h hV hm ht
    · exact eval_8 n pl len sub ih w v va vl vc V h hV hm ht
    · exact eval_9 n pl len sub ih w v va vl vc V h hV hm ht
    · exact eval_10 n pl len sub ih w v va vl vc V h hV hm ht
    · exact eval_11 n pl len sub ih w v va vl vc V h hV hm ht
    · exact eval_12 n pl len sub ih w v va vl vc V h hV hm ht
    · exact eval_13 n pl len sub ih w v va vl vc V h hV hm ht
    · exact eval_14 n pl len sub ih w v va vl vc V h hV hm ht
end Go.Proofs.Ytogdfjcgcdbnaaa
