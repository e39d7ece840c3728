/- MixIn's walk. -/
import Derived.Test.YtcnpomejdnpegaaMixMath
namespace Go.Proofs.Ytcnpomejdnpegaa
open Go.RowKit
set_option linter.unusedVariables false

theorem IntsAt.take {w : World} {a : Option Addr} {len : Nat} {l : List Int} (h : IntsAt w a len l) (k : Nat) (hk : k ≤ len) : IntsAt w a k (l.take k) := by
  obtain ⟨h1, h2, h3⟩ := h
  refine ⟨by rw [List.length_take]; omega, by omega, ?_⟩
  rcases h3 with h0 | ⟨b, off, ha, hb, hc⟩
  · exact .inl (by omega)
  · refine .inr ⟨b, off, ha, hb, fun i hi => ?_⟩
    rw [hc i (by omega)]
    simp [List.getD, hi]
theorem placesS_take (l : List Nat) (seed : Nat) (n : Int) (m h : Nat) (hh : h ≤ m) : (placesS l seed n m).take h = placesS l seed n h := by
  unfold placesS
  rw [← List.map_take, List.take_range, Nat.min_eq_left hh]
theorem placeS_nonneg (h : Nat) (n : Int) : 0 ≤ placeS h n := by
  unfold placeS; split
  · omega
  · exact Int.emod_nonneg _ (by omega)
theorem placeS_zero (h : Nat) (n : Int) (hn : n < 1) : placeS h n = 0 := by unfold placeS; rw [if_pos hn]
theorem placeS_lt (h : Nat) (n : Int) (hn : 1 ≤ n) : placeS h n < n := by unfold placeS; rw [if_neg (by omega)]; exact Int.emod_lt_of_pos _ (by omega)
end Go.Proofs.Ytcnpomejdnpegaa
