/- Few, Rows, Keys, flag. -/
import Derived.Test.YtbbdeefnooaacaaTabHead
import Derived.Test.YtbbdeefnooaacaaKeys
namespace Go.Proofs.Ytbbdeefnooaacaa
open Go.RowKit
set_option linter.unusedVariables false
set_option linter.unusedSimpArgs false

def FewK (w : World) (len : Nat) (f : Nat → KeyD) (most : Int) (e : Ending) (w' : World) : Prop := (∃ b : Bool, e = .returned (.bool b) ∧ (b = true → (len : Int) ≤ most ∧ ∀ i, i < len → (f i).kl ≤ 200)) ∧ w = w'
/-- A row of byte strings in memory. -/
structure RowsK (w : World) (a : Option Addr) (n : Nat) (ks : List (List Nat)) : Prop where
  len : ks.length = n
  small : n ≤ 9223372036854775807
  at_ : n = 0 ∨ ∃ b off, a = some ⟨b, off, none⟩ ∧ b < w.heap.size ∧ ∀ i, i < n → ∃ x l c, w.cell? ⟨b, off + i, none⟩ = some (.slice x l c) ∧ BytesAt w x l c (ks.getD i [])
theorem RowsK.mono {w w' : World} {a : Option Addr} {n : Nat} {ks : List (List Nat)} (h : RowsK w a n ks) (hb : Below w.heap.size w w') : RowsK w' a n ks := by
  refine ⟨h.1, h.2, ?_⟩
  rcases h.3 with h0 | ⟨b, off, ha, hlt, hi⟩
  · exact .inl h0
  · refine .inr ⟨b, off, ha, Nat.lt_of_lt_of_le hlt hb.size, fun i hil => ?_⟩
    obtain ⟨x, l, c, h1, h2⟩ := hi i hil
    exact ⟨x, l, c, (hb.cell (p := ⟨b, off + i, none⟩) hlt).trans h1, h2.mono hb⟩
theorem str_same {l k : List Nat} (hl : ∀ n ∈ l, n < 256) (hk : ∀ n ∈ k, n < 256) : ((strOfNums (l.map fun (n : Nat) => (n : Int))).toList == (strOfNums (k.map fun (n : Nat) => (n : Int))).toList) = decide (l = k) := by
  rw [Lib.strOfNums_toList, Lib.strOfNums_toList]
  exact bytes_same hl hk
theorem rows_ext {xs ys : List (List Nat)} {n : Nat} (hx : xs.length = n) (hy : ys.length = n) (h : ∀ i, i < n → xs.getD i [] = ys.getD i []) : xs = ys := by
  apply List.ext_getElem (by omega)
  intro i h1 h2
  have := h i (by omega)
  rw [List.getD_eq_getElem?_getD, List.getD_eq_getElem?_getD, List.getElem?_eq_getElem h1, List.getElem?_eq_getElem h2] at this
  exact this
end Go.Proofs.Ytbbdeefnooaacaa
