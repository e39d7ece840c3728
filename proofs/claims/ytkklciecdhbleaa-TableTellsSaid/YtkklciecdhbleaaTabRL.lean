/- The document's Insert of a new key: no keys yet, or an empty key (by gen04zy.py). -/
import Derived.Test.YtkklciecdhbleaaTabRJ
namespace Go.Proofs.Ytkklciecdhbleaa
open Go.RowKit
set_option linter.unusedVariables false

/-- Onto a slice of length 0 and cap 0: nothing. -/
theorem step_append_nil {P : Program} {ops : Array Oper} {o : Oper} {a : Act} {w : World} {K : Act → World → Prop} {Q : Exit → Act → World → Prop} {E : Prop} (hgd : o.guard = none) (s x : Operand) (t e : TypeId)
    (ho : o.op = .call { callee := .builtin .append, args := #[s, x], argTypes := #[t, t] }) (ht : P.underlying t = some (.slice e)) (z : Value) (bytes : Nat) (hinfo : (P.info? e).map (fun i => (i.zero, i.size, i.bytes)) = some (some z, 1, bytes))
    (sa : Option Addr) (sc : Nat) (hs : a.eval s = .slice sa 0 sc) (xa : Option Addr) (m c : Nat) (hx : a.eval x = .slice xa m c) (hm : m = 0) (h : ∀ v, v = .slice sa 0 sc → K (a.put o.dst v) w) :
    if Region.wanted o (yielded ops a.tmps) = true then Oper.wp P o a w K Q else E := by
  subst hm
  exact step_append_nothing hgd s x t e ho ht z bytes hinfo sa sc hs xa c hx (h _ rfl)
theorem BytesAt.of_nil {w : World} {g : Addr} {key : List Nat} (h : key = []) : BytesAt w (some g) 0 0 key := by
  subst h
  exact ⟨rfl, by omega, (fun n hn => by cases hn), (fun he => by cases he), .inl rfl⟩
theorem rows_snoc0 {w2 w36 : World} {n yl c34 : Nat} {a34 : Option Addr} {v36 : Value} {vals : List Value} {ks : List (List Nat)} {key : List Nat} (BL : Below w2.heap.size w2 w36) (hby : BytesAt w36 a34 yl c34 key) (hl : ks.length = n) (hn : n ≤ 1048576)
    (vk : ∀ i, i < n → ∃ x l c, vals[i]? = some (.slice x l c) ∧ BytesAt w2 x l c (ks.getD i [])) {B2 : Nat} (O36 : w36.ownsRow B2 23 1 v36 (n + 1) (vals ++ [.slice a34 yl c34])) :
    ∃ g c36, v36 = .slice (some ⟨g, 0, none⟩) (n + 1) c36 ∧ B2 ≤ g ∧ RowsK w36 (some ⟨g, 0, none⟩) (n + 1) (ks ++ [key]) := by
  rcases O36.2 with ⟨_, h0⟩ | ⟨g, cap, cur, rfl, h1, h3, h4, h5, h6, h7⟩
  · omega
  have hvl : vals.length = n := by have := O36.1; simp at this; omega
  refine ⟨g, cap, rfl, h1, by simp; omega, by omega, .inr ⟨g, 0, rfl, (Array.getElem?_eq_some_iff.1 h3).1, fun i hi => ?_⟩⟩
  have hcell : ∀ v, (vals ++ [Value.slice a34 yl c34])[i]? = some v → w36.cell? ⟨g, 0 + i, none⟩ = some v := fun v hv => by
    rw [← h7, List.getElem?_take] at hv
    rw [Nat.zero_add]
    split at hv
    · exact cell_of_row _ _ i _ _ _ h3 |>.trans (by simpa using hv)
    · cases hv
  by_cases hin : i < n
  · obtain ⟨x, l, c, e1, e2⟩ := vk i hin
    refine ⟨x, l, c, hcell _ (by rw [List.getElem?_append_left (by omega)]; exact e1), ?_⟩
    rw [List.getD_eq_getElem?_getD, List.getElem?_append_left (by omega), ← List.getD_eq_getElem?_getD]
    exact e2.mono BL
  · obtain rfl : i = n := by omega
    refine ⟨_, _, _, hcell _ (by rw [List.getElem?_append_right (by omega), hvl, Nat.sub_self]; rfl), ?_⟩
    rw [List.getD_eq_getElem?_getD, List.getElem?_append_right (by omega), hl, Nat.sub_self]
    exact hby
end Go.Proofs.Ytkklciecdhbleaa
