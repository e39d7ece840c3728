/- Arguments that came in, as the walks want them: numbers of 32 bits with a sign, rows of ints, rows of ranges. -/
import Derived.Test.YtblipgmllpniaaaArgs
import Derived.Test.YtblipgmllpniaaaSchema2
import Derived.Deep.Slices
namespace Go.Proofs.Ytblipgmllpniaaa
open Go.RowKit Go.ChangeShapes Go.WideShapes Go.ChangeAt
set_option linter.unusedVariables false
section
variable {H : Type} {enc : TypeId × Value → H} {P : Program} {w : World} {base b0 : Nat} {spare : Nat → Bool} {held : Bool} {r : Reach}
theorem i32_trod {t : TypeId} {fuel : Nat} {c : Value} {y : DataW H × List MemPlace} (ht : P.underlying t = some (.int .i32))
    (h : DataW.trod enc P w base spare held fuel t [c] = some y) : ∃ n : Int, -2147483648 ≤ n ∧ n ≤ 2147483647 ∧ c = .int .i32 n := by
  obtain ⟨a, e, rfl, wa⟩ := DataW.trod_int ht h
  simp at e
  have := bounds_i32 wa
  exact ⟨a, by omega, by omega, e⟩
theorem i32_arg {t : TypeId} {v : Value} {d : DataW H} {p : List MemPlace} (ht : P.underlying t = some (.int .i32)) (hv : Value.okWide P w r b0 t v)
    (h : DataW.Trod enc P w base spare held t v d p) : ∃ n : Int, -2147483648 ≤ n ∧ n ≤ 2147483647 ∧ v = .int .i32 n := by
  obtain ⟨n, rfl⟩ := okWide_int ht hv
  obtain ⟨fuel, hf⟩ := h
  exact i32_trod ht (c := .int .i32 n) hf
theorem rows_trod {t e : TypeId} {fuel : Nat} {c : Value} {y : DataW H × List MemPlace} (ht : P.underlying t = some (.slice e)) (he : P.underlying e = some (.int .i64)) (hc : P.cellsOf e = 1)
    (h : DataW.trod enc P w base spare held fuel t [c] = some y) : ∃ (a : Option Addr) (len cap : Nat) (l : List Int), c = .slice a len cap ∧ IntsAt w a len l ∧ ∀ n ∈ l, -9223372036854775808 ≤ n ∧ n ≤ 9223372036854775807 := by
  obtain ⟨a, len, cap, zs, rfl, h1, h2, h3, h4, h5⟩ := ints_trod ht he hc h
  exact ⟨a, len, cap, zs, rfl, ⟨h1, h2, h5⟩, fun n hn => bounds_i64 (h3 n hn)⟩
theorem fields_trod {t e : TypeId} {fs : Array Field} {f0 f1 : Field} {fuel : Nat} {c : Value} {y : DataW H × List MemPlace} (ht : P.underlying t = some (.slice e)) (he : P.underlying e = some (.struct fs)) (h0 : fs[0]? = some f0) (h1 : fs[1]? = some f1)
    (o0 : f0.offset = 0) (o1 : f1.offset = 1) (t0 : P.underlying f0.type = some (.int .i64)) (t1 : P.underlying f1.type = some (.int .i64)) (k0 : P.cellsOf f0.type = 1) (k1 : P.cellsOf f1.type = 1) (hc : P.cellsOf e = 2)
    (h : DataW.trod enc P w base spare held fuel t [c] = some y) : ∃ (a : Option Addr) (len cap : Nat) (l : List (Int × Int)), c = .slice a len cap ∧ FieldsAt w a len l := by
  rcases Deep.open_slice ht h with ⟨hcs, _⟩ | ⟨x, len, cap, m, n, D, Pl, hcs, _, hl, hm, hmm, _, hi⟩
  · simp at hcs
    exact ⟨none, 0, 0, [], hcs, ⟨rfl, by omega, by simp, .inl rfl⟩⟩
  · simp at hcs
    have hml : len ≤ m := by rw [hmm]; split <;> omega
    unfold maxLen at hm
    by_cases h00 : len = 0
    · subst h00
      exact ⟨some x, 0, cap, [], hcs, ⟨rfl, by omega, by simp, .inl rfl⟩⟩
    obtain ⟨b, off, spot⟩ := x
    have hspot : spot = none := by
      obtain ⟨cs', hcs', ht'⟩ := hi 0 (by omega)
      rw [hc] at hcs'
      obtain ⟨_, hlen, hat⟩ := World.cells?_some hcs'
      obtain ⟨c0, c1, rfl⟩ := list2 cs' hlen
      have := hat 0 (by omega)
      simp [Addr.add] at this
      simpa using World.cell?_spot this
    subst hspot
    have key : ∀ i, i < len → ∃ lo hi : Int, (-9223372036854775808 ≤ lo ∧ lo ≤ 9223372036854775807) ∧ (-9223372036854775808 ≤ hi ∧ hi ≤ 9223372036854775807) ∧ w.cell? ⟨b, off + i * 2, none⟩ = some (.int .i64 lo) ∧ w.cell? ⟨b, off + i * 2 + 1, none⟩ = some (.int .i64 hi) := by
      intro i hil
      obtain ⟨cs', hcs', ht'⟩ := hi i (by omega)
      rw [hc] at hcs'
      obtain ⟨_, hlen, hat⟩ := World.cells?_some hcs'
      obtain ⟨c0, c1, rfl⟩ := list2 cs' hlen
      obtain ⟨n', hf⟩ := field_trod he ht'
      obtain ⟨y0, g0⟩ := hf 0 f0 h0
      obtain ⟨y1, g1⟩ := hf 1 f1 h1
      rw [o0, k0] at g0
      rw [o1, k1] at g1
      obtain ⟨lo, a1, a2, rfl⟩ := int_trod t0 (c := c0) g0
      obtain ⟨hi', a3, a4, rfl⟩ := int_trod t1 (c := c1) g1
      refine ⟨lo, hi', ⟨a1, a2⟩, ⟨a3, a4⟩, ?_, ?_⟩
      · have := hat 0 (by omega)
        rw [Addr.add_lit, Addr.add_lit] at this
        simpa using this
      · have := hat 1 (by omega)
        rw [Addr.add_lit, Addr.add_lit] at this
        simpa using this
    refine ⟨some ⟨b, off, none⟩, len, cap, (List.range len).map (fun i => ((intOf ((w.cell? ⟨b, off + i * 2, none⟩).getD undef)), (intOf ((w.cell? ⟨b, off + i * 2 + 1, none⟩).getD undef)))), hcs, ⟨by simp, by omega, ?_, ?_⟩⟩
    · intro f hf
      obtain ⟨i, hi', rfl⟩ := List.mem_map.1 hf
      obtain ⟨lo, hi2, a1, a2, a3, a4⟩ := key i (List.mem_range.1 hi')
      rw [a3, a4]
      exact ⟨a1, a2⟩
    · refine .inr ?_
      obtain ⟨lo, hi2, a1, a2, a3, a4⟩ := key 0 (by omega)
      refine ⟨b, off, rfl, World.block_lt_of_cell? w _ a3, fun i hil => ?_⟩
      obtain ⟨lo, hi2, a1, a2, a3, a4⟩ := key i hil
      have e : ((List.range len).map (fun i => ((intOf ((w.cell? ⟨b, off + i * 2, none⟩).getD undef)), (intOf ((w.cell? ⟨b, off + i * 2 + 1, none⟩).getD undef))))).getD i (0, 0) = (lo, hi2) := by
        simp [List.getD, hil, a3, a4, intOf]
      rw [e]
      exact ⟨a3, a4⟩
/-- Of no row nothing is there. -/
theorem none_trod {t e : TypeId} {fuel : Nat} {a : Option Addr} {len cap : Nat} {y : DataW H × List MemPlace} (ht : P.underlying t = some (.slice e)) (h : DataW.trod enc P w base spare held fuel t [.slice a len cap] = some y) : a = none → len = 0 ∧ cap = 0 := by
  intro ha
  rcases Deep.open_slice ht h with ⟨hcs, _⟩ | ⟨x, _, _, m, n, D, Pl, hcs, _⟩
  · simp at hcs
    exact ⟨hcs.2.1, hcs.2.2⟩
  · subst ha
    simp at hcs
theorem rows_arg {t e : TypeId} {v : Value} {d : DataW H} {p : List MemPlace} (ht : P.underlying t = some (.slice e)) (he : P.underlying e = some (.int .i64)) (hc : P.cellsOf e = 1) (hv : Value.okWide P w r b0 t v)
    (h : DataW.Trod enc P w base spare held t v d p) : ∃ (a : Option Addr) (len cap : Nat) (l : List Int), v = .slice a len cap ∧ IntsAt w a len l ∧ ∀ n ∈ l, -9223372036854775808 ≤ n ∧ n ≤ 9223372036854775807 := by
  obtain ⟨a, n, c, rfl⟩ := okWide_slice ht hv
  obtain ⟨fuel, hf⟩ := h
  exact rows_trod ht he hc (c := .slice a n c) hf
theorem fields_arg {t e : TypeId} {fs : Array Field} {f0 f1 : Field} {v : Value} {d : DataW H} {p : List MemPlace} (ht : P.underlying t = some (.slice e)) (he : P.underlying e = some (.struct fs)) (h0 : fs[0]? = some f0) (h1 : fs[1]? = some f1)
    (o0 : f0.offset = 0) (o1 : f1.offset = 1) (t0 : P.underlying f0.type = some (.int .i64)) (t1 : P.underlying f1.type = some (.int .i64)) (k0 : P.cellsOf f0.type = 1) (k1 : P.cellsOf f1.type = 1) (hc : P.cellsOf e = 2) (hv : Value.okWide P w r b0 t v)
    (h : DataW.Trod enc P w base spare held t v d p) : ∃ (a : Option Addr) (len cap : Nat) (l : List (Int × Int)), v = .slice a len cap ∧ FieldsAt w a len l := by
  obtain ⟨a, n, c, rfl⟩ := okWide_slice ht hv
  obtain ⟨fuel, hf⟩ := h
  exact fields_trod ht he h0 h1 o0 o1 t0 t1 k0 k1 hc (c := .slice a n c) hf
end
end Go.Proofs.Ytblipgmllpniaaa
