/- A table's rows, as a search reads them. -/
import Derived.Test.YtbbdeefnooaacaaTabL
namespace Go.Proofs.Ytbbdeefnooaacaa
open Go.RowKit
set_option linter.unusedVariables false
set_option linter.unusedSimpArgs false

/-- A table's rows, as a search reads them. -/
structure TabR (w : World) (ka : Option Addr) (n : Nat) (sa : Option Addr) (sl : Nat) (ks : List (List Nat)) (s : List Int) (rs : List (Nat × Nat)) : Prop where
  slots : IntsAt w sa sl s
  keys : n = 0 ∨ ∃ kb, ka = some ⟨kb, 0, none⟩ ∧ kb < w.heap.size ∧ ∀ i, i < n → ∃ a l c, w.cell? ⟨kb, i, none⟩ = some (.slice a l c) ∧ BytesAt w a l c (ks.getD i []) ∧ a ≠ none
  len : ks.length = n
  row : SlotV s rs
  hash : rs.map Prod.snd = (ks.map fun k => hashS k 0).reverse
  small : n ≤ 1048576
theorem TabR.mono {w w' : World} {ka : Option Addr} {n : Nat} {sa : Option Addr} {sl : Nat} {ks : List (List Nat)} {s : List Int} {rs : List (Nat × Nat)} (h : TabR w ka n sa sl ks s rs) (hb : Below w.heap.size w w') : TabR w' ka n sa sl ks s rs := by
  refine ⟨h.slots.mono hb, ?_, h.len, h.row, h.hash, h.small⟩
  rcases h.keys with h0 | ⟨kb, hk, hlt, hi⟩
  · exact .inl h0
  · refine .inr ⟨kb, hk, Nat.lt_of_lt_of_le hlt hb.size, fun i hil => ?_⟩
    obtain ⟨a, l, c, h1, h2, h3⟩ := hi i hil
    exact ⟨a, l, c, (hb.cell (p := ⟨kb, i, none⟩) hlt).trans h1, h2.mono hb, h3⟩
theorem TabR.count {w : World} {ka : Option Addr} {n : Nat} {sa : Option Addr} {sl : Nat} {ks : List (List Nat)} {s : List Int} {rs : List (Nat × Nat)} (h : TabR w ka n sa sl ks s rs) : rs.length = n := by
  have := congrArg List.length h.hash
  simp at this
  rw [this, h.len]
theorem TabR.key {w : World} {ka : Option Addr} {n : Nat} {sa : Option Addr} {sl : Nat} {ks : List (List Nat)} {s : List Int} {rs : List (Nat × Nat)} (h : TabR w ka n sa sl ks s rs) {pre tl : List (Nat × Nat)} {y : Nat × Nat} (he : rs = pre ++ y :: tl) :
    tl.length < n ∧ hashS (ks.getD tl.length []) 0 = y.2 := by
  have hc := h.count
  have hl : tl.length < ks.length := by
    rw [h.len, ← hc, he]
    simp
    omega
  refine ⟨by rw [← h.len]; exact hl, ?_⟩
  have h1 := congrArg List.reverse h.hash
  rw [List.reverse_reverse, he] at h1
  simp only [List.map_append, List.map_cons, List.reverse_append, List.reverse_cons] at h1
  have h2 : ((ks.map fun k => hashS k 0))[tl.length]? = some y.2 := by
    rw [← h1, List.append_assoc, List.getElem?_append_right (by simp)]
    simp
  rw [List.getElem?_map] at h2
  rw [List.getD_eq_getElem?_getD]
  cases hx : ks[tl.length]? with
  | none => rw [hx] at h2; simp at h2
  | some x => rw [hx] at h2; simpa using h2
theorem hashS_lt (l : List Nat) (seed : Nat) : hashS l seed < 2 ^ 64 := xs32_lt _ (mulS_lt _)
end Go.Proofs.Ytbbdeefnooaacaa
