/- told: what a record tells. -/
import Derived.Test.YtbbdeefnooaacaaTabA
import Derived.Test.YtbbdeefnooaacaaMixHash
import Derived.Test.YtbbdeefnooaacaaLater
namespace Go.Proofs.Ytbbdeefnooaacaa
open Go.RowKit
set_option linter.unusedVariables false
set_option linter.unusedSimpArgs false

theorem IntsAt.at' {w : World} {a : Option Addr} {n : Nat} {s : List Int} (h : IntsAt w a n s) (i : Nat) (hi : i < n) : ∃ b off, a = some ⟨b, off, none⟩ ∧ b < w.heap.size ∧ w.cell? ⟨b, off + i, none⟩ = some (.int .i64 (s.getD i 0)) := by
  obtain ⟨b, off, ha, hb, hc⟩ := h.at_.resolve_left (by omega)
  exact ⟨b, off, ha, hb, hc i hi⟩
theorem told_any (w : World) (sa : Option Addr) (n sc : Nat) (s : List Int) (h : IntsAt w sa n s) (y : Nat × Nat) (tl : List (Nat × Nat)) (r : RecAt s y tl) (L : Nat) (hL : L ≤ 64) :
    Calls Try.prog 40 #[.slice sa n sc, .int .i64 (y.1 : Nat), .int .i64 (L : Nat)] w fun e w' => e = .returned (.int .i64 (latest y.2 L tl : Nat)) ∧ w = w' := by
  have hm := h.small
  have hn := h.len_eq
  obtain ⟨b, off, rfl, hb, hc⟩ := h.at_.resolve_left (by have := r.lt; omega)
  have r1 := r.lt
  have r2 := r.ge
  have r3 := r.many
  have r4 := r.told
  have m65 := manyOf_le y.2 tl
  obtain ⟨q, hq⟩ : ∃ q, y.1 = q + 2 := ⟨y.1 - 2, by omega⟩
  rw [hq] at r1 r2 r3 r4
  rw [hq]
  have c1 := hc q (by omega)
  rw [show q + 2 - 2 = q by omega] at r3
  rw [r3] at c1
  by_cases hl : manyOf y.2 tl ≤ L
  · have f1 : decide (manyOf y.2 tl ≤ L) = true := by simpa using hl
    rw [latest_beyond _ _ _ hl]
    clear r3 r4 hc h r
    go_enter Try.func40, Try.ntmps40
    go_wp2_with fail
    go_ret
    exact ⟨rfl, rfl⟩
  · have f1 : decide (manyOf y.2 tl ≤ L) = false := by simpa using hl
    obtain ⟨d, hd⟩ : ∃ d, q = d + 1 + L := ⟨q - 1 - L, by omega⟩
    have c2 := hc d (by omega)
    have r5 := r4 L (by omega)
    rw [show q + 2 - 3 - L = d by omega] at r5
    rw [r5] at c2
    subst hd
    clear r3 r4 hc h r r5
    go_enter Try.func40, Try.ntmps40
    go_wp2_with fail
    go_ret
    exact ⟨rfl, rfl⟩
end Go.Proofs.Ytbbdeefnooaacaa
