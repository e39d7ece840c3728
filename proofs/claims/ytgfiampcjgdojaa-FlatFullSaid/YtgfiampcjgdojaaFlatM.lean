/- A map of strings to truths that the call itself makes: a set of keys. -/
import Derived.Test.YtgfiampcjgdojaaFlatD
import Derived.Test.YtgfiampcjgdojaaTabW
namespace Go.Proofs.Ytgfiampcjgdojaa
open Go.RowKit Go.Maps
set_option linter.unusedVariables false
set_option linter.unusedSimpArgs false

theorem bool_zero (w : World) : (zeroValue 4).run Try.prog w = .ok (.bool false) w := by kernel_rfl
theorem plainBool {v : Value} {z : DataW Unit × List MemPlace} (h : plainElem Try.prog 4 v = some z) : ∃ x, v = .bool x ∧ z = (.lit (.bool x), []) := by
  unfold plainElem at h
  rw [Try.underlying4] at h
  cases v <;> simp at h
  exact ⟨_, rfl, h.symm⟩
/-- What the map holds. -/
def InD (D : DataW Unit) (ks : List (List Nat)) : Prop :=
  (∀ k : List Nat, (∀ n ∈ k, n < 256) → Maps.has D (litK k) = decide (k ∈ ks) ∧ D.atKey (litK k) (.lit (.bool false)) = .lit (.bool (decide (k ∈ ks)))) ∧ Maps.size D = ks.length
def InMap (w : World) (b n : Nat) (ks : List (List Nat)) : Prop := ∃ D : DataW Unit, w.ownsMap Try.prog 9 (plainElem Try.prog 4) b n D ∧ InD D ks
theorem InMap.made (w : World) : InMap (w.alloc (.map #[] 0)) w.heap.size 0 [] :=
  ⟨.map [], World.ownsMap_made _ _ _ _, ⟨fun k _ => ⟨by simp [Maps.has_eq], by rw [atKey_of_not_has (by simp [Maps.has_eq])]; simp⟩, rfl⟩⟩
theorem InMap.lt {w : World} {b n : Nat} {ks : List (List Nat)} (h : InMap w b n ks) : b < w.heap.size := by
  obtain ⟨D, hown, _⟩ := h
  exact hown.lt
theorem InMap.block {w w' : World} {b n : Nat} {ks : List (List Nat)} (h : InMap w b n ks) {es : Array MapEntry} {cl : Nat} (hm : w.heap[b]? = some (.map es cl)) (hb : w'.heap[b]? = some (.map es cl)) : InMap w' b n ks := by
  obtain ⟨D, ⟨es', cl', h1, h2, h3, h4⟩, hD⟩ := h
  exact ⟨D, ⟨es', cl', (hb.trans hm.symm).trans h1, h2, h3, h4⟩, hD⟩
theorem InMap.map {w : World} {b n : Nat} {ks : List (List Nat)} (h : InMap w b n ks) : ∃ es cl, w.heap[b]? = some (.map es cl) := by
  obtain ⟨D, ⟨es, cl, h1, _⟩, _⟩ := h
  exact ⟨es, cl, h1⟩
theorem InMap.mono {w w' : World} {b n : Nat} {ks : List (List Nat)} (h : InMap w b n ks) (hb : Below w.heap.size w w') : InMap w' b n ks := by
  obtain ⟨es, cl, hm⟩ := h.map
  exact h.block hm ((hb.block b h.lt).trans hm)
theorem InMap.more {w : World} {b n n' : Nat} {ks : List (List Nat)} (h : InMap w b n ks) (hn : n ≤ n') : InMap w b n' ks := by
  obtain ⟨D, hown, hD⟩ := h
  exact ⟨D, hown.mono hn, hD⟩
theorem InMap.look {w : World} {b n : Nat} {ks : List (List Nat)} (h : InMap w b n ks) (k : List Nat) (hk : ∀ n ∈ k, n < 256) (hl : k.length ≤ 1000000) :
    (Instr.lookup 56 (.map (some b)) (.string (strOfNums (k.map fun (n : Nat) => (n : Int)))) false).run Try.prog w = .ok (.bool (decide (k ∈ ks))) w := by
  obtain ⟨D, hown, hD, _⟩ := h
  obtain ⟨v, ps, hrun, hv⟩ := hown.lookup strK_law Try.underlying56 (bool_zero w) (plainElem_bool Try.underlying4 false) (keyOf_k hl)
  rw [(hD k hk).2] at hv
  obtain ⟨x, rfl, hx⟩ := plainBool hv
  simp at hx
  rw [hrun, hx.1]
theorem InMap.len {w : World} {b n : Nat} {ks : List (List Nat)} (h : InMap w b n ks) (ty : TypeId) : (Builtin.len_ #[56] ty #[.map (some b)]).run Try.prog w = .ok (.int .i64 (ks.length : Nat)) w := by
  obtain ⟨D, hown, _, hs⟩ := h
  rw [← hs]
  exact hown.len Try.underlying56 ty
theorem inMap_put {w w1 : World} {b n : Nat} {ks : List (List Nat)} {D : DataW Unit} (hown : w.ownsMap Try.prog 9 (plainElem Try.prog 4) b n D) (hD : InD D ks) (k : List Nat) (hk : ∀ n ∈ k, n < 256)
    (hown1 : w1.ownsMap Try.prog 9 (plainElem Try.prog 4) b (n + 1) (D.put (litK k) (.lit (.bool true)))) : InMap w1 b (n + 1) (insK ks k) := by
  obtain ⟨hD, hs⟩ := hD
  refine ⟨_, hown1, fun q hq => ?_, ?_⟩
  · by_cases hqk : q = k
    · subst hqk
      rw [has_put_same hown.isMap (by trivial), atKey_put_same hown.isMap (by trivial), insK_has]
      simp
    · have hne : litK q ≠ litK k := fun h => hqk (litK_inj hq hk h)
      rw [has_put_other hne, atKey_put_other hne, (hD q hq).1, (hD q hq).2, insK_has]
      simp [hqk]
  · rw [size_put (hown.tidy strK_law), (hD k hk).1, hs, insK_len]
    by_cases hp : k ∈ ks <;> simp [hp]
end Go.Proofs.Ytgfiampcjgdojaa
