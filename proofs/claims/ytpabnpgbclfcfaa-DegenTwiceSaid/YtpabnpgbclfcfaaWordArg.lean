/- Words that came in: their shape (by gen19t.py). -/
import Derived.Test.YtpabnpgbclfcfaaArgs
import Derived.Test.YtpabnpgbclfcfaaOwn
namespace Go.Proofs.Ytpabnpgbclfcfaa
open Go.RowKit Go.ChangeShapes Go.WideShapes Go.ChangeAt
set_option linter.unusedVariables false
set_option linter.unusedSimpArgs false
section
variable {H : Type} {enc : TypeId × Value → H} {P : Program} {w : World} {base b0 : Nat} {spare : Nat → Bool} {held : Bool} {r : Reach}
theorem slice_shape {t e : TypeId} {fuel : Nat} {v : Value} {y : DataW H × List MemPlace} (ht : P.underlying t = some (.slice e)) (h : DataW.trod enc P w base spare held fuel t [v] = some y) : ∃ (a : Option Addr) (n c : Nat), v = .slice a n c ∧ n ≤ 9223372036854775807 := by
  rcases DataW.trod_slice ht h with ⟨hcs, _⟩ | ⟨x, len, cap, elems, rest, n, hfu, hcs, hy, _, hl, hm, _⟩
  · obtain rfl : v = .slice none 0 0 := by simpa using hcs
    exact ⟨none, 0, 0, rfl, by omega⟩
  · unfold maxLen at hm
    obtain rfl : v = .slice (some x) len cap := by simpa using hcs
    exact ⟨some x, len, cap, rfl, by omega⟩
theorem word_shape {t : TypeId} {e : TypeId} {fs : Array Field} {f0 f1 : Field} {v : Value} {d : DataW H} {p : List MemPlace} (hst : P.underlying t = some (.struct fs)) (h0 : fs[0]? = some f0) (h1 : fs[1]? = some f1) (o0 : f0.offset = 0) (o1 : f1.offset = 1) (kt : P.cellsOf t = 2)
    (t0 : P.underlying f0.type = some (.slice e)) (t1 : P.underlying f1.type = some (.int .i64)) (k0 : P.cellsOf f0.type = 1) (k1 : P.cellsOf f1.type = 1) (hv : Value.okWide P w r b0 t v)
    (h : DataW.Trod enc P w base spare held t v d p) : ∃ (a : Option Addr) (n c : Nat) (L : Int), v = .agg #[.slice a n c, .int .i64 L] ∧ n ≤ 9223372036854775807 := by
  obtain ⟨l, rfl, hl, m, hf⟩ := struct_arg hst hv h
  rw [kt] at hl
  obtain ⟨c0, c1, rfl⟩ : ∃ c0 c1, l = [c0, c1] := by
    rcases l with _ | ⟨a, _ | ⟨b, _ | ⟨c, l⟩⟩⟩ <;> simp at hl
    exact ⟨a, b, rfl⟩
  obtain ⟨y0, g0⟩ := hf 0 f0 h0
  obtain ⟨y1, g1⟩ := hf 1 f1 h1
  rw [o0, k0] at g0
  rw [o1, k1] at g1
  obtain ⟨a, n, c, rfl, hn⟩ := slice_shape t0 (v := c0) g0
  obtain ⟨L, _, _, rfl⟩ := int_trod t1 (c := c1) g1
  exact ⟨a, n, c, L, rfl, hn⟩
end
end Go.Proofs.Ytpabnpgbclfcfaa
