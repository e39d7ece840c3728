/- Rows of byte strings as arguments. -/
import Derived.Test.YtkklciecdhbleaaKeys
namespace Go.Proofs.Ytkklciecdhbleaa
open Go.RowKit Go.ChangeShapes Go.WideShapes Go.ChangeAt
set_option linter.unusedVariables false
section
variable {H : Type} {enc : TypeId × Value → H} {P : Program} {w : World} {base b0 : Nat} {spare : Nat → Bool} {held : Bool} {r : Reach}
theorem keys_arg {t e u8 : TypeId} {v : Value} {d : DataW H} {p : List MemPlace} (ht : P.underlying t = some (.slice e)) (he : P.underlying e = some (.slice u8)) (tu : P.underlying u8 = some (.int .u8)) (cu : P.cellsOf u8 = 1) (hc : P.cellsOf e = 1) (hv : Value.okWide P w r b0 t v)
    (h : DataW.Trod enc P w base spare held t v d p) : ∃ (a : Option Addr) (len cap : Nat) (f : Nat → KeyD), v = .slice a len cap ∧ KeysAt w a len f := by
  obtain ⟨a, n, c, rfl⟩ := okWide_slice ht hv
  obtain ⟨fuel, hf⟩ := h
  exact keys_trod ht he tu cu hc (v := .slice a n c) hf
end
end Go.Proofs.Ytkklciecdhbleaa
