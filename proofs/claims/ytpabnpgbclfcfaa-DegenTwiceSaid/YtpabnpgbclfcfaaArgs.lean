/- Arguments that came in, as the walks want them. -/
import Derived.Test.YtpabnpgbclfcfaaOwn
import Derived.Test.YtpabnpgbclfcfaaFrame
namespace Go.Proofs.Ytpabnpgbclfcfaa
open Go.RowKit Go.ChangeShapes Go.WideShapes Go.ChangeAt
set_option linter.unusedVariables false
set_option linter.unusedSimpArgs false
theorem bytes_trod {H : Type} {enc : TypeId × Value → H} {P : Program} {w : World} {base : Nat} {spare : Nat → Bool} {held : Bool} {t e : TypeId} {fuel : Nat} {c : Value} {y : DataW H × List MemPlace} (ht : P.underlying t = some (.slice e)) (he : P.underlying e = some (.int .u8)) (hc : P.cellsOf e = 1)
    (h : DataW.trod enc P w base spare held fuel t [c] = some y) : ∃ (a : Option Addr) (len cap : Nat) (l : List Nat), c = .slice a len cap ∧ BytesAt w a len cap l := by
  obtain ⟨a, len, cap, zs, rfl, h1, h2, h3, h4, h5⟩ := ints_trod ht he hc h
  have hnn : ∀ n ∈ zs, 0 ≤ n ∧ n < 256 := fun n hn => by have := bounds_u8 (h3 n hn); omega
  refine ⟨a, len, cap, zs.map Int.toNat, rfl, by simpa using h1, h2, ?_, h4, ?_⟩
  · intro n hn
    obtain ⟨z, hz, rfl⟩ := List.mem_map.1 hn
    have := hnn z hz; omega
  · rcases h5 with h0 | ⟨b, off, ha, hb, hcell⟩
    · exact .inl h0
    · refine .inr ⟨b, off, ha, hb, fun i hi => ?_⟩
      rw [hcell i hi]
      have hlt : i < zs.length := by omega
      have := hnn zs[i] (List.getElem_mem hlt)
      simp [List.getD, hlt]
      omega
section
variable {H : Type} {enc : TypeId × Value → H} {P : Program} {w : World} {base b0 : Nat} {spare : Nat → Bool} {held : Bool} {r : Reach}
theorem nat_arg {t : TypeId} {k : IntKind} {v : Value} {d : DataW H} {p : List MemPlace} (ht : P.underlying t = some (.int k)) (M : Nat) (hM : ∀ a : Int, (Lit.int k a).wf = true → 0 ≤ a ∧ a < M) (hv : Value.okWide P w r b0 t v)
    (h : DataW.Trod enc P w base spare held t v d p) : ∃ n : Nat, n < M ∧ v = .int k (n : Int) := by
  obtain ⟨n, rfl⟩ := okWide_int ht hv
  obtain ⟨fuel, hf⟩ := h
  exact nat_trod ht M hM (c := .int k n) hf
theorem int_arg {t : TypeId} {v : Value} {d : DataW H} {p : List MemPlace} (ht : P.underlying t = some (.int .i64)) (hv : Value.okWide P w r b0 t v)
    (h : DataW.Trod enc P w base spare held t v d p) : ∃ n : Int, -9223372036854775808 ≤ n ∧ n ≤ 9223372036854775807 ∧ v = .int .i64 n := by
  obtain ⟨n, rfl⟩ := okWide_int ht hv
  obtain ⟨fuel, hf⟩ := h
  exact int_trod ht (c := .int .i64 n) hf
theorem bytes_arg {t e : TypeId} {v : Value} {d : DataW H} {p : List MemPlace} (ht : P.underlying t = some (.slice e)) (he : P.underlying e = some (.int .u8)) (hc : P.cellsOf e = 1) (hv : Value.okWide P w r b0 t v)
    (h : DataW.Trod enc P w base spare held t v d p) : ∃ (a : Option Addr) (len cap : Nat) (l : List Nat), v = .slice a len cap ∧ BytesAt w a len cap l := by
  obtain ⟨a, n, c, rfl⟩ := okWide_slice ht hv
  obtain ⟨fuel, hf⟩ := h
  exact bytes_trod ht he hc (c := .slice a n c) hf
/-- A row of numbers of one kind, in whatever way they lie. -/
theorem ints_arg {t e : TypeId} {k : IntKind} {v : Value} {d : DataW H} {p : List MemPlace} (ht : P.underlying t = some (.slice e)) (he : P.underlying e = some (.int k)) (hc : P.cellsOf e = 1) (hv : Value.okWide P w r b0 t v)
    (h : DataW.Trod enc P w base spare held t v d p) : ∃ (a : Option Addr) (len cap : Nat) (zs : List Int), v = .slice a len cap ∧ zs.length = len ∧ len ≤ 9223372036854775807 ∧ (∀ n ∈ zs, (Lit.int k n).wf = true) ∧ (a = none → len = 0 ∧ cap = 0) ∧
      (len = 0 ∨ ∃ b off, a = some ⟨b, off, none⟩ ∧ b < w.heap.size ∧ ∀ i, i < len → w.cell? ⟨b, off + i, none⟩ = some (.int k (zs.getD i 0))) := by
  obtain ⟨a, n, c, rfl⟩ := okWide_slice ht hv
  obtain ⟨fuel, hf⟩ := h
  exact ints_trod ht he hc (c := .slice a n c) hf
end
end Go.Proofs.Ytpabnpgbclfcfaa
