/- The document's Eval on trees of numbers and answers. -/
import Derived.Test.YtdeanjphcggbpaaTreesRA
import Derived.Test.YtdeanjphcggbpaaTreesRB
import Derived.Test.YtdeanjphcggbpaaTreesRC
import Derived.Test.YtdeanjphcggbpaaTreesRD
import Derived.Test.YtdeanjphcggbpaaTreesRE
import Derived.Test.YtdeanjphcggbpaaTreesRF
namespace Go.Proofs.Ytdeanjphcggbpaa
open Go.RowKit
set_option linter.unusedVariables false
theorem refeval_any : ∀ t, EvalR t := by
  intro t
  induction t with
  | nil => exact fun w v va vl vc V h => h.elim
  | node op n pl len sub ih =>
    intro w v va vl vc V h hV hm ht
    have h1 : 1 ≤ op := hm.1
    have h2 : op ≤ 19 := by
      have h24 : op ≤ 24 := hm.2.1
      have he : tyOf op len (cnt (fun i => tyT (sub i)) 0 len) (cnt (fun i => tyT (sub i)) 1 len) (cnt (fun i => tyT (sub i)) 2 len) (cnt (fun i => tyT (sub i)) 3 len) = 1 ∨ tyOf op len (cnt (fun i => tyT (sub i)) 0 len) (cnt (fun i => tyT (sub i)) 1 len) (cnt (fun i => tyT (sub i)) 2 len) (cnt (fun i => tyT (sub i)) 3 len) = 2 := ht
      unfold tyOf at he
      (repeat' split at he) <;> omega
    rcases (by omega : op = 1 ∨ op = 2 ∨ op = 3 ∨ op = 4 ∨ op = 5 ∨ op = 6 ∨ op = 7 ∨ op = 8 ∨ op = 9 ∨ op = 10 ∨ op = 11 ∨ op = 12 ∨ op = 13 ∨ op = 14 ∨ op = 15 ∨ op = 16 ∨ op = 17 ∨ op = 18 ∨ op = 19) with rfl | rfl | rfl | rfl | rfl | rfl | rfl | rfl | rfl | rfl | rfl | rfl | rfl | rfl | rfl | rfl | rfl | rfl | rfl
    · exact refev_1 n pl len sub ih w v va vl vc V h hV hm ht
    · exact refev_2 n pl len sub ih w v va vl vc V h hV hm ht
    · exact refev_3 n pl len sub ih w v va vl vc V h hV hm ht
    · exact refev_4 n pl len sub ih w v va vl vc V h hV hm ht
    · exact refev_5 n pl len sub ih w v va vl vc V h hV hm ht
    · exact refev_6 n pl len sub ih w v va vl vc V h hV hm ht
    · exact refev_7 n pl len sub ih w v va vl vc V h hV hm ht
    · exact refev_8 n pl len sub ih w v va vl vc V h hV hm ht
    · exact refev_9 n pl len sub ih w v va vl vc V h hV hm ht
    · exact refev_10 n pl len sub ih w v va vl vc V h hV hm ht
    · exact refev_11 n pl len sub ih w v va vl vc V h hV hm ht
    · exact refev_12 n pl len sub ih w v va vl vc V h hV hm ht
    · exact refev_13 n pl len sub ih w v va vl vc V h hV hm ht
    · exact refev_14 n pl len sub ih w v va vl vc V h hV hm ht
    · exact refev_15 n pl len sub ih w v va vl vc V h hV hm ht
    · exact refev_16 n pl len sub ih w v va vl vc V h hV hm ht
    · exact refev_17 n pl len sub ih w v va vl vc V h hV hm ht
    · exact refev_18 n pl len sub ih w v va vl vc V h hV hm ht
    · exact refev_19 n pl len sub ih w v va vl vc V h hV hm ht
end Go.Proofs.Ytdeanjphcggbpaa
