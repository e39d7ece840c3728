/- Numbers of 64 bits that came in, as BitsRuns' walk wants them. -/
import Derived.Test.YticbbldlhbooeaaBitsRuns
import Derived.Test.YticbbldlhbooeaaArgs
namespace Go.Proofs.Yticbbldlhbooeaa
open Go.RowKit
set_option linter.unusedVariables false
theorem nats_at {w : World} {a : Option Addr} {len : Nat} {zs : List Int} (h1 : zs.length = len) (h3 : ∀ n ∈ zs, (Lit.int .u64 n).wf = true) (h5 : len = 0 ∨ ∃ b off, a = some ⟨b, off, none⟩ ∧ b < w.heap.size ∧ ∀ i, i < len → w.cell? ⟨b, off + i, none⟩ = some (.int .u64 (zs.getD i 0))) :
    NatsAt w a len (zs.map Int.toNat) := by
  have hnn : ∀ n ∈ zs, 0 ≤ n ∧ n < 18446744073709551616 := fun n hn => by have := bounds_u64 (h3 n hn); omega
  refine ⟨by simpa using h1, ?_, ?_⟩
  · intro n hn
    obtain ⟨z, hz, rfl⟩ := List.mem_map.1 hn
    have := hnn z hz; omega
  · rcases h5 with h0 | ⟨b, off, ha, hb, hcell⟩
    · exact .inl h0
    · refine .inr ⟨b, off, ha, hb, fun i hi => ?_⟩
      rw [hcell i hi]
      have hlt : i < zs.length := by omega
      have := hnn zs[i] (List.getElem_mem hlt)
      simp [List.getD, hlt]
      omega
end Go.Proofs.Yticbbldlhbooeaa
