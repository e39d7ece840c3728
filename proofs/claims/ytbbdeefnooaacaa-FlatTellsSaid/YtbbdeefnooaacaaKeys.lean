/- Rows of byte strings that came in. -/
import Derived.Test.YtbbdeefnooaacaaArgs
import Derived.Test.YtbbdeefnooaacaaOwn
import Derived.Deep.Slices
namespace Go.Proofs.Ytbbdeefnooaacaa
open Go.RowKit Go.ChangeShapes Go.WideShapes Go.ChangeAt
set_option linter.unusedVariables false
set_option linter.unusedSimpArgs false
section
variable {H : Type} {enc : TypeId × Value → H} {P : Program} {w : World} {base b0 : Nat} {spare : Nat → Bool} {held : Bool} {r : Reach}
/-- A row whose elements have c cells each. -/
theorem elems_trod {t e : TypeId} {c fuel : Nat} {v : Value} {y : DataW H × List MemPlace} (ht : P.underlying t = some (.slice e)) (hc : P.cellsOf e = c) (c0 : 0 < c)
    (h : DataW.trod enc P w base spare held fuel t [v] = some y) :
    ∃ (a : Option Addr) (len cap : Nat), v = .slice a len cap ∧ (a = none → len = 0 ∧ cap = 0) ∧ len ≤ 9223372036854775807 ∧ (len = 0 ∨ ∃ b off, a = some ⟨b, off, none⟩ ∧ b < w.heap.size ∧
      ∀ i, i < len → ∃ (cs : List Value) (n : Nat) (z : DataW H × List MemPlace), cs.length = c ∧ (∀ j, j < c → w.cell? ⟨b, off + i * c + j, none⟩ = cs[j]?) ∧ DataW.trod enc P w base spare held n e cs = some z) := by
  rcases Deep.open_slice ht h with ⟨hcs, _⟩ | ⟨x, len, cap, m, n, D, Pl, hcs, _, hl, hm, hmm, _, hi⟩
  · simp at hcs
    exact ⟨none, 0, 0, hcs, fun _ => ⟨rfl, rfl⟩, by omega, .inl rfl⟩
  · simp at hcs
    have hml : len ≤ m := by rw [hmm]; split <;> omega
    unfold maxLen at hm
    refine ⟨some x, len, cap, hcs, nofun, by omega, ?_⟩
    by_cases h00 : len = 0
    · exact .inl h00
    obtain ⟨b, off, spot⟩ := x
    have hspot : spot = none := by
      obtain ⟨cs', hcs', ht'⟩ := hi 0 (by omega)
      rw [hc] at hcs'
      obtain ⟨_, hlen, hat⟩ := World.cells?_some hcs'
      have := hat 0 c0
      rw [List.getElem?_eq_getElem (by omega)] at this
      simp [Addr.add] at this
      simpa using World.cell?_spot this
    subst hspot
    have key : ∀ i, i < len → ∃ (cs : List Value) (n : Nat) (z : DataW H × List MemPlace), cs.length = c ∧ (∀ j, j < c → w.cell? ⟨b, off + i * c + j, none⟩ = cs[j]?) ∧ DataW.trod enc P w base spare held n e cs = some z := by
      intro i hil
      obtain ⟨cs', hcs', ht'⟩ := hi i (by omega)
      rw [hc] at hcs'
      obtain ⟨_, hlen, hat⟩ := World.cells?_some hcs'
      refine ⟨cs', n, _, hlen, fun j hj => ?_, ht'⟩
      have := hat j hj
      rwa [Addr.add_lit, Addr.add_lit] at this
    refine .inr ⟨b, off, rfl, ?_, key⟩
    obtain ⟨cs, _, _, hlen, hat, _⟩ := key 0 (by omega)
    have := hat 0 c0
    rw [List.getElem?_eq_getElem (by omega)] at this
    exact World.block_lt_of_cell? w _ this
end
/-- Rows of bytes that came in. -/
structure KeyD where
  ka : Option Addr
  kl : Nat
  kc : Nat
  key : List Nat
structure KeysAt (w : World) (a : Option Addr) (len : Nat) (f : Nat → KeyD) : Prop where
  small : len ≤ 9223372036854775807
  at_ : len = 0 ∨ ∃ b off, a = some ⟨b, off, none⟩ ∧ b < w.heap.size ∧ ∀ i, i < len → w.cell? ⟨b, off + i, none⟩ = some (.slice (f i).ka (f i).kl (f i).kc) ∧ BytesAt w (f i).ka (f i).kl (f i).kc (f i).key
theorem KeysAt.mono {w w' : World} {a : Option Addr} {len : Nat} {f : Nat → KeyD} (h : KeysAt w a len f) (hb : Below w.heap.size w w') : KeysAt w' a len f := by
  refine ⟨h.1, ?_⟩
  rcases h.2 with h0 | ⟨b, off, ha, hlt, hi⟩
  · exact .inl h0
  · exact .inr ⟨b, off, ha, Nat.lt_of_lt_of_le hlt hb.size, fun i hil => ⟨(hb.cell (p := ⟨b, off + i, none⟩) hlt).trans (hi i hil).1, (hi i hil).2.mono hb⟩⟩
section
variable {H : Type} {enc : TypeId × Value → H} {P : Program} {w : World} {base b0 : Nat} {spare : Nat → Bool} {held : Bool}
theorem keys_trod {t e u8 : TypeId} {fuel : Nat} {v : Value} {y : DataW H × List MemPlace} (ht : P.underlying t = some (.slice e)) (he : P.underlying e = some (.slice u8)) (tu : P.underlying u8 = some (.int .u8)) (cu : P.cellsOf u8 = 1) (hc : P.cellsOf e = 1)
    (h : DataW.trod enc P w base spare held fuel t [v] = some y) : ∃ (a : Option Addr) (len cap : Nat) (f : Nat → KeyD), v = .slice a len cap ∧ KeysAt w a len f := by
  obtain ⟨a, len, cap, rfl, _, hm, hat⟩ := elems_trod ht hc (by decide) h
  rcases hat with h0' | ⟨b, off, rfl, hlt, hi⟩
  · exact ⟨a, len, cap, fun _ => ⟨none, 0, 0, []⟩, rfl, hm, .inl h0'⟩
  have key : ∀ i, i < len → ∃ x : KeyD, w.cell? ⟨b, off + i, none⟩ = some (.slice x.ka x.kl x.kc) ∧ BytesAt w x.ka x.kl x.kc x.key := by
    intro i hil
    obtain ⟨cs, n, z, hlen, hcell, htr⟩ := hi i hil
    obtain ⟨c0, rfl⟩ : ∃ c0, cs = [c0] := by
      match cs, hlen with
      | [c0], _ => exact ⟨c0, rfl⟩
    obtain ⟨ka, kl, kc, l, rfl, hk⟩ := bytes_trod he tu cu (c := c0) htr
    refine ⟨⟨ka, kl, kc, l⟩, ?_, hk⟩
    have := hcell 0 (by decide)
    simpa using this
  obtain ⟨f, hf⟩ := Classical.axiomOfChoice (r := fun (i : Nat) (x : KeyD) => i < len → w.cell? ⟨b, off + i, none⟩ = some (.slice x.ka x.kl x.kc) ∧ BytesAt w x.ka x.kl x.kc x.key) (fun i => by
    by_cases hil : i < len
    · obtain ⟨x, hx⟩ := key i hil
      exact ⟨x, fun _ => hx⟩
    · exact ⟨⟨none, 0, 0, []⟩, fun hh => absurd hh hil⟩)
  exact ⟨_, len, cap, f, rfl, hm, .inr ⟨b, off, rfl, hlt, fun i hil => hf i hil⟩⟩
end
end Go.Proofs.Ytbbdeefnooaacaa
