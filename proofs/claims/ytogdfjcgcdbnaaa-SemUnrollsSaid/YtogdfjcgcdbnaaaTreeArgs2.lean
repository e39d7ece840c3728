/- Words that came in, with their caps (by gen17v.py). -/
import Derived.Test.YtogdfjcgcdbnaaaTreeArgs
namespace Go.Proofs.Ytogdfjcgcdbnaaa
open Go.RowKit Go.ChangeShapes Go.WideShapes Go.ChangeAt
set_option linter.unusedVariables false
set_option linter.unusedSimpArgs false
section
variable {H : Type} {enc : TypeId × Value → H} {P : Program} {w : World} {base b0 : Nat} {spare : Nat → Bool} {held : Bool} {r : Reach}
theorem slice_cap {t e : TypeId} {fuel n c : Nat} {a : Option Addr} {y : DataW H × List MemPlace} (ht : P.underlying t = some (.slice e)) (h : DataW.trod enc P w base spare held fuel t [.slice a n c] = some y) : n ≤ c ∧ c ≤ 9223372036854775807 := by
  rcases Deep.open_slice ht h with ⟨hcs, _⟩ | ⟨x, len, cap, m, nn, D, Pl, hcs, _, hl, hm, _⟩
  · simp at hcs
    omega
  · simp at hcs
    unfold maxLen at hm
    omega
theorem word_arg2 {t e i : TypeId} {fs : Array Field} {f0 f1 : Field} {v : Value} {d : DataW H} {p : List MemPlace} (hst : P.underlying t = some (.struct fs)) (h0 : fs[0]? = some f0) (h1 : fs[1]? = some f1) (o0 : f0.offset = 0) (o1 : f1.offset = 1) (kt : P.cellsOf t = 2)
    (t0 : P.underlying f0.type = some (.slice e)) (he : P.underlying e = some (.slice i)) (hi : P.underlying i = some (.int .i64)) (t1 : P.underlying f1.type = some (.int .i64)) (ke : P.cellsOf e = 1) (ki : P.cellsOf i = 1) (k0 : P.cellsOf f0.type = 1) (k1 : P.cellsOf f1.type = 1) (hv : Value.okWide P w r b0 t v)
    (h : DataW.Trod enc P w base spare held t v d p) : ∃ (a : Option Addr) (n c : Nat) (L : Int) (row : Nat → List Int), v = .agg #[.slice a n c, .int .i64 L] ∧ n ≤ 9223372036854775807 ∧ n ≤ c ∧ c ≤ 9223372036854775807 ∧ WordAt w a n row := by
  obtain ⟨l, rfl, hl, m, hf⟩ := struct_arg hst hv h
  rw [kt] at hl
  obtain ⟨c0, c1, rfl⟩ : ∃ c0 c1, l = [c0, c1] := by
    rcases l with _ | ⟨a, _ | ⟨b, _ | ⟨c, l⟩⟩⟩ <;> simp at hl
    exact ⟨a, b, rfl⟩
  obtain ⟨y0, g0⟩ := hf 0 f0 h0
  obtain ⟨y1, g1⟩ := hf 1 f1 h1
  rw [o0, k0] at g0
  rw [o1, k1] at g1
  obtain ⟨a, n, c, row, rfl, hn, hw⟩ := word_trod t0 he hi ke ki (v := c0) g0
  obtain ⟨hc1, hc2⟩ := slice_cap t0 (a := a) (n := n) (c := c) g0
  obtain ⟨L, _, _, rfl⟩ := int_trod t1 (c := c1) g1
  exact ⟨a, n, c, L, row, rfl, hn, hc1, hc2, hw⟩
end
end Go.Proofs.Ytogdfjcgcdbnaaa
