/- Rows of pairs of numbers, and pairs of numbers, as arguments. -/
import Derived.Test.YtoffcpfebghdnaaArgs
import Derived.Test.YtoffcpfebghdnaaKeys
import Derived.Deep.Slices
namespace Go.Proofs.Ytoffcpfebghdnaa
open Go.RowKit Go.ChangeShapes Go.WideShapes Go.ChangeAt
set_option linter.unusedVariables false
set_option linter.unusedSimpArgs false
structure PrsAt (w : World) (a : Option Addr) (len : Nat) (f : Nat → Nat × Nat) : Prop where
  small : len ≤ 9223372036854775807
  lt : ∀ i, (f i).1 < 4294967296 ∧ (f i).2 < 4294967296
  at_ : len = 0 ∨ ∃ b off, a = some ⟨b, off, none⟩ ∧ b < w.heap.size ∧ ∀ i, i < len → w.cell? ⟨b, off + i * 2, none⟩ = some (.int .u32 ((f i).1 : Nat)) ∧ w.cell? ⟨b, off + i * 2 + 1, none⟩ = some (.int .u32 ((f i).2 : Nat))
theorem PrsAt.mono {w w' : World} {a : Option Addr} {len : Nat} {f : Nat → Nat × Nat} (h : PrsAt w a len f) (hb : Below w.heap.size w w') : PrsAt w' a len f := by
  refine ⟨h.1, h.2, ?_⟩
  rcases h.3 with h0 | ⟨b, off, ha, hlt, hi⟩
  · exact .inl h0
  · exact .inr ⟨b, off, ha, Nat.lt_of_lt_of_le hlt hb.size, fun i hil => ⟨(hb.cell (p := ⟨b, off + i * 2, none⟩) hlt).trans (hi i hil).1, (hb.cell (p := ⟨b, off + i * 2 + 1, none⟩) hlt).trans (hi i hil).2⟩⟩
section
variable {H : Type} {enc : TypeId × Value → H} {P : Program} {w : World} {base b0 : Nat} {spare : Nat → Bool} {held : Bool} {r : Reach}
theorem pair_trod {t e : TypeId} {fuel : Nat} {cs : List Value} {y : DataW H × List MemPlace} (ht : P.underlying t = some (.array 2 e)) (he : P.underlying e = some (.int .u32)) (hc : P.cellsOf e = 1) (hl : cs.length = 2)
    (h : DataW.trod enc P w base spare held fuel t cs = some y) : ∃ a b : Nat, a < 4294967296 ∧ b < 4294967296 ∧ cs = [.int .u32 (a : Nat), .int .u32 (b : Nat)] := by
  obtain ⟨c0, c1, rfl⟩ : ∃ c0 c1, cs = [c0, c1] := by
    match cs, hl with
    | [c0, c1], _ => exact ⟨c0, c1, rfl⟩
  obtain ⟨xs, m, _, _, _, hlen, hi⟩ := DataW.trod_array ht h
  have h0 := hi 0 (by decide)
  have h1 := hi 1 (by decide)
  rw [hc, List.getElem?_eq_getElem (by omega)] at h0 h1
  obtain ⟨a, ha, rfl⟩ := nat_trod he 4294967296 wf_u32 (c := c0) h0
  obtain ⟨b, hb, rfl⟩ := nat_trod he 4294967296 wf_u32 (c := c1) h1
  exact ⟨a, b, ha, hb, rfl⟩
theorem pair_arg {t e : TypeId} {v : Value} {d : DataW H} {p : List MemPlace} (ht : P.underlying t = some (.array 2 e)) (he : P.underlying e = some (.int .u32)) (hc : P.cellsOf e = 1) (hct : P.cellsOf t = 2) (hv : Value.okWide P w r b0 t v)
    (h : DataW.Trod enc P w base spare held t v d p) : ∃ a b : Nat, a < 4294967296 ∧ b < 4294967296 ∧ v = .agg #[.int .u32 (a : Nat), .int .u32 (b : Nat)] := by
  simp only [Value.okWide, ht] at hv
  obtain ⟨cs, rfl, hs, _⟩ := hv
  obtain ⟨fuel, hf⟩ := h
  have hf' : DataW.trod enc P w base spare held fuel t cs.toList = some (d, p) := hf
  obtain ⟨a, b, ha, hb, hcs⟩ := pair_trod ht he hc (by simpa [hct] using hs) hf'
  refine ⟨a, b, ha, hb, ?_⟩
  have : cs = #[.int .u32 (a : Nat), .int .u32 (b : Nat)] := Array.toList_inj.1 (by simpa using hcs)
  rw [this]
theorem prs_trod {t e u : TypeId} {fuel : Nat} {v : Value} {y : DataW H × List MemPlace} (ht : P.underlying t = some (.slice e)) (he : P.underlying e = some (.array 2 u)) (tu : P.underlying u = some (.int .u32)) (cu : P.cellsOf u = 1) (hc : P.cellsOf e = 2)
    (h : DataW.trod enc P w base spare held fuel t [v] = some y) : ∃ (a : Option Addr) (len cap : Nat) (f : Nat → Nat × Nat), v = .slice a len cap ∧ PrsAt w a len f := by
  obtain ⟨a, len, cap, rfl, _, hm, hat⟩ := elems_trod ht hc (by decide) h
  rcases hat with h0' | ⟨b, off, rfl, hlt, hi⟩
  · exact ⟨a, len, cap, fun _ => (0, 0), rfl, hm, fun _ => ⟨by decide, by decide⟩, .inl h0'⟩
  have key : ∀ i, i < len → ∃ x : Nat × Nat, x.1 < 4294967296 ∧ x.2 < 4294967296 ∧ w.cell? ⟨b, off + i * 2, none⟩ = some (.int .u32 (x.1 : Nat)) ∧ w.cell? ⟨b, off + i * 2 + 1, none⟩ = some (.int .u32 (x.2 : Nat)) := by
    intro i hil
    obtain ⟨cs, n, z, hlen, hcell, htr⟩ := hi i hil
    obtain ⟨x, y, hx, hy, rfl⟩ := pair_trod he tu cu hlen htr
    exact ⟨(x, y), hx, hy, hcell 0 (by decide), hcell 1 (by decide)⟩
  have key2 : ∀ i, ∃ x : Nat × Nat, (x.1 < 4294967296 ∧ x.2 < 4294967296) ∧ (i < len → w.cell? ⟨b, off + i * 2, none⟩ = some (.int .u32 (x.1 : Nat)) ∧ w.cell? ⟨b, off + i * 2 + 1, none⟩ = some (.int .u32 (x.2 : Nat))) := fun i => by
    by_cases hil : i < len
    · obtain ⟨x, h1, h2, h3⟩ := key i hil
      exact ⟨x, ⟨h1, h2⟩, fun _ => h3⟩
    · exact ⟨(0, 0), ⟨by decide, by decide⟩, fun hh => absurd hh hil⟩
  obtain ⟨f, hf⟩ := Classical.axiomOfChoice key2
  exact ⟨_, len, cap, f, rfl, hm, fun i => (hf i).1, .inr ⟨b, off, rfl, hlt, fun i hil => (hf i).2 hil⟩⟩
theorem prs_arg {t e u : TypeId} {v : Value} {d : DataW H} {p : List MemPlace} (ht : P.underlying t = some (.slice e)) (he : P.underlying e = some (.array 2 u)) (tu : P.underlying u = some (.int .u32)) (cu : P.cellsOf u = 1) (hc : P.cellsOf e = 2) (hv : Value.okWide P w r b0 t v)
    (h : DataW.Trod enc P w base spare held t v d p) : ∃ (a : Option Addr) (len cap : Nat) (f : Nat → Nat × Nat), v = .slice a len cap ∧ PrsAt w a len f := by
  obtain ⟨a, n, c, rfl⟩ := okWide_slice ht hv
  obtain ⟨fuel, hf⟩ := h
  exact prs_trod ht he tu cu hc (v := .slice a n c) hf
end
end Go.Proofs.Ytoffcpfebghdnaa
