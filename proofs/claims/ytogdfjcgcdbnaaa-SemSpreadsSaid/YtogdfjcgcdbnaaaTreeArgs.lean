/- Arguments that came in: trees of expressions, words of states. -/
import Derived.Test.YtogdfjcgcdbnaaaSemC
import Derived.Test.YtogdfjcgcdbnaaaKeys
namespace Go.Proofs.Ytogdfjcgcdbnaaa
open Go.RowKit Go.ChangeShapes Go.WideShapes Go.ChangeAt
set_option linter.unusedVariables false
set_option linter.unusedSimpArgs false
section
variable {H : Type} {enc : TypeId × Value → H} {P : Program} {w : World} {base b0 : Nat} {spare : Nat → Bool} {held : Bool} {r : Reach}
theorem tree_arg {e : TypeId} {fs : Array Field} {f0 f1 f2 f3 : Field} {v : Value} {d : DataW H} {p : List MemPlace} (he : P.underlying e = some (.struct fs)) (h0 : fs[0]? = some f0) (h1 : fs[1]? = some f1) (h2 : fs[2]? = some f2) (h3 : fs[3]? = some f3) (hsz : fs.size = 4)
    (o0 : f0.offset = 0) (o1 : f1.offset = 1) (o2 : f2.offset = 2) (o3 : f3.offset = 3) (t0 : P.underlying f0.type = some (.int .i64)) (t1 : P.underlying f1.type = some (.int .i64)) (t2 : P.underlying f2.type = some (.int .i64)) (t3 : P.underlying f3.type = some (.slice e))
    (k0 : P.cellsOf f0.type = 1) (k1 : P.cellsOf f1.type = 1) (k2 : P.cellsOf f2.type = 1) (k3 : P.cellsOf f3.type = 1) (hc : P.cellsOf e = 4) (hv : Value.okWide P w r b0 e v)
    (h : DataW.Trod enc P w base spare held e v d p) : ∃ t : T, TreeAt w t v := by
  obtain ⟨cs, rfl, hz⟩ := okWide_struct he hv
  obtain ⟨fuel, hf⟩ := h
  obtain ⟨t, op, n, pl, a, l, c, hcs, ht⟩ := tree_trod (sl := f3.type) he h0 h1 h2 h3 hsz o0 o1 o2 o3 t0 t1 t2 t3 k0 k1 k2 k3 hc fuel _ _ hf
  refine ⟨t, ?_⟩
  have : cs = #[.int .i64 op, .int .i64 n, .int .i64 pl, .slice a l c] := Array.ext' (show cs.toList = [Value.int .i64 op, .int .i64 n, .int .i64 pl, .slice a l c] from hcs)
  rw [this]
  exact ht
theorem word_trod {t e i : TypeId} {fuel : Nat} {v : Value} {y : DataW H × List MemPlace} (ht : P.underlying t = some (.slice e)) (he : P.underlying e = some (.slice i)) (hi : P.underlying i = some (.int .i64)) (ke : P.cellsOf e = 1) (ki : P.cellsOf i = 1)
    (h : DataW.trod enc P w base spare held fuel t [v] = some y) : ∃ (a : Option Addr) (n c : Nat) (row : Nat → List Int), v = .slice a n c ∧ n ≤ 9223372036854775807 ∧ WordAt w a n row := by
  obtain ⟨a, len, cap, rfl, _, hm, hat⟩ := elems_trod ht ke (by decide) h
  rcases hat with h0' | ⟨b, off, rfl, hlt, hi2⟩
  · exact ⟨a, len, cap, fun _ => [], rfl, hm, .inl h0'⟩
  have key : ∀ j, ∃ l : List Int, j < len → ∃ (ra : Option Addr) (rl rc : Nat), w.cell? ⟨b, off + j, none⟩ = some (.slice ra rl rc) ∧ IntsAt w ra rl l := by
    intro j
    by_cases hj : j < len
    · obtain ⟨cs, n, z, hlen, hcell, htr⟩ := hi2 j hj
      obtain ⟨c0, rfl⟩ := list1 cs hlen
      obtain ⟨ra, rl, rc, zs, rfl, hl, hs, _, _, hcc⟩ := ints_trod he hi ki (c := c0) htr
      have := hcell 0 (by decide)
      rw [Nat.mul_one, Nat.add_zero] at this
      exact ⟨zs, fun _ => ⟨ra, rl, rc, this, hl, hs, hcc⟩⟩
    · exact ⟨[], fun hh => absurd hh hj⟩
  obtain ⟨f, hf⟩ := Classical.axiomOfChoice key
  exact ⟨_, len, cap, f, rfl, hm, .inr ⟨b, off, rfl, hlt, hf⟩⟩
theorem word_arg {t e i : TypeId} {fs : Array Field} {f0 f1 : Field} {v : Value} {d : DataW H} {p : List MemPlace} (hst : P.underlying t = some (.struct fs)) (h0 : fs[0]? = some f0) (h1 : fs[1]? = some f1) (o0 : f0.offset = 0) (o1 : f1.offset = 1) (kt : P.cellsOf t = 2)
    (t0 : P.underlying f0.type = some (.slice e)) (he : P.underlying e = some (.slice i)) (hi : P.underlying i = some (.int .i64)) (t1 : P.underlying f1.type = some (.int .i64)) (ke : P.cellsOf e = 1) (ki : P.cellsOf i = 1) (k0 : P.cellsOf f0.type = 1) (k1 : P.cellsOf f1.type = 1) (hv : Value.okWide P w r b0 t v)
    (h : DataW.Trod enc P w base spare held t v d p) : ∃ (a : Option Addr) (n c : Nat) (L : Int) (row : Nat → List Int), v = .agg #[.slice a n c, .int .i64 L] ∧ n ≤ 9223372036854775807 ∧ WordAt w a n row := by
  obtain ⟨l, rfl, hl, m, hf⟩ := struct_arg hst hv h
  rw [kt] at hl
  obtain ⟨c0, c1, rfl⟩ : ∃ c0 c1, l = [c0, c1] := by
    rcases l with _ | ⟨a, _ | ⟨b, _ | ⟨c, l⟩⟩⟩ <;> simp at hl
    exact ⟨a, b, rfl⟩
  obtain ⟨y0, g0⟩ := hf 0 f0 h0
  obtain ⟨y1, g1⟩ := hf 1 f1 h1
  rw [o0, k0] at g0
  rw [o1, k1] at g1
  obtain ⟨a, n, c, row, rfl, hn, hw⟩ := word_trod t0 he hi ke ki (v := c0) g0
  obtain ⟨L, _, _, rfl⟩ := int_trod t1 (c := c1) g1
  exact ⟨a, n, c, L, row, rfl, hn, hw⟩
end
end Go.Proofs.Ytogdfjcgcdbnaaa
