/- The document's Eval: its contract (by gen17n.py). -/
import Derived.Test.YtdeanjphcggbpaaTreesF
namespace Go.Proofs.Ytdeanjphcggbpaa
open Go.RowKit
set_option linter.unusedVariables false
set_option linter.unusedSimpArgs false
theorem truthR_any (w : World) (b : Bool) : Calls Try.prog 42 #[.bool b] w fun e w' => e = .returned (.int .i64 (t01 b)) ∧ Below w.heap.size w w' := by
  have b0 := Below.refl w.heap.size w
  cases b with
  | true =>
    go_enter Try.func42, Try.ntmps42
    go_wp2_with fail
    go_ret
    exact ⟨rfl, b0⟩
  | false =>
    go_enter Try.func42, Try.ntmps42
    go_wp2_with fail
    go_ret
    exact ⟨rfl, b0⟩
def EvalR (t : T) : Prop := ∀ (w : World) (v : Value) (va : Option Addr) (vl vc : Nat) (V : List Int), TreeAt w t v → IntsAt w va vl V → MayP t → (tyT t = 1 ∨ tyT t = 2) →
    Calls Try.prog 35 #[v, .slice va vl vc] w fun e w' => e = .returned (.int .i64 (evT V t)) ∧ Below w.heap.size w w'
theorem ty_lit {op n pl : Int} {len : Nat} {sub : Nat → T} (h : tyT (.node op n pl len sub) = 2) (ho : 14 < op) : ∀ i, i < len → tyT (sub i) = 2 := by
  have h2 : tyOf op len (cnt (fun i => tyT (sub i)) 0 len) (cnt (fun i => tyT (sub i)) 1 len) (cnt (fun i => tyT (sub i)) 2 len) (cnt (fun i => tyT (sub i)) 3 len) = 2 := h
  unfold tyOf at h2
  repeat' split at h2
  all_goals first
    | omega
    | exact cnt_all (by assumption)
theorem ev15 (V : List Int) (n a b : Int) : evOp V 15 n a b = b01 (a = 0) := by simp [evOp]
theorem ev16 (V : List Int) (n a b : Int) : evOp V 16 n a b = b01 (a = 1 ∧ b = 1) := by simp [evOp]
theorem ev17 (V : List Int) (n a b : Int) : evOp V 17 n a b = b01 (a = 1 ∨ b = 1) := by simp [evOp]
theorem ev18 (V : List Int) (n a b : Int) : evOp V 18 n a b = b01 (a = 0 ∨ b = 1) := by simp [evOp]
theorem ev19 (V : List Int) (n a b : Int) : evOp V 19 n a b = b01 (a = b) := by simp [evOp]
end Go.Proofs.Ytdeanjphcggbpaa
