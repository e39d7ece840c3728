/- Bytes that came in, as the walks of layer 3 want them. -/
import Derived.Test.YtgmdiieoikldfaaMixHash
import Derived.Test.YtgmdiieoikldfaaFrame
namespace Go.Proofs.Ytgmdiieoikldfaa
open Go.RowKit
set_option linter.unusedVariables false
theorem bytes_trod {H : Type} {enc : TypeId × Value → H} {P : Program} {w : World} {base : Nat} {spare : Nat → Bool} {held : Bool} {t e : TypeId} {fuel : Nat} {c : Value} {y : DataW H × List MemPlace} (ht : P.underlying t = some (.slice e)) (he : P.underlying e = some (.int .u8)) (hc : P.cellsOf e = 1)
    (h : DataW.trod enc P w base spare held fuel t [c] = some y) : ∃ (a : Option Addr) (len cap : Nat) (l : List Nat), c = .slice a len cap ∧ BytesAt w a len cap l := by
  obtain ⟨a, len, cap, zs, rfl, h1, h2, h3, h4, h5⟩ := ints_trod ht he hc h
  have hnn : ∀ n ∈ zs, 0 ≤ n ∧ n < 256 := fun n hn => by have := bounds_u8 (h3 n hn); omega
  refine ⟨a, len, cap, zs.map Int.toNat, rfl, by simpa using h1, h2, ?_, h4, ?_⟩
  · intro n hn
    obtain ⟨z, hz, rfl⟩ := List.mem_map.1 hn
    have := hnn z hz; omega
  · rcases h5 with h0 | ⟨b, off, ha, hb, hcell⟩
    · exact .inl h0
    · refine .inr ⟨b, off, ha, hb, fun i hi => ?_⟩
      rw [hcell i hi]
      have hlt : i < zs.length := by omega
      have := hnn zs[i] (List.getElem_mem hlt)
      simp [List.getD, hlt]
      omega
end Go.Proofs.Ytgmdiieoikldfaa
