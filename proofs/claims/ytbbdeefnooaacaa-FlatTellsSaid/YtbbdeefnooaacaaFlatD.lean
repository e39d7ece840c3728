/- Flat, as laws want it: a box of four cells; room for one more. -/
import Derived.Test.YtbbdeefnooaacaaFlatHead
import Derived.Test.YtbbdeefnooaacaaActs
namespace Go.Proofs.Ytbbdeefnooaacaa
open Go.RowKit
set_option linter.unusedVariables false
set_option linter.unusedSimpArgs false

theorem four_cellU (w : World) (g : Nat) (a b c d : Value) (x i : Nat) {v : Value} (hne : x ≠ g) (h : w.cell? ⟨x, i, none⟩ = some v) : ((((w.setCell ⟨g, 0, none⟩ a).setCell ⟨g, 1, none⟩ b).setCell ⟨g, 2, none⟩ c).setCell ⟨g, 3, none⟩ d).cell? ⟨x, i, none⟩ = some v := by
  rw [World.cell?_setCell_other _ _ _ _ (by simp [hne]), World.cell?_setCell_other _ _ _ _ (by simp [hne]), World.cell?_setCell_other _ _ _ _ (by simp [hne]), World.cell?_setCell_other _ _ _ _ (by simp [hne])]
  exact h
theorem OutP.room {cap : Int} {ks : List (List Nat)} {key : List Nat} {p : Nat} {F : Bool} {E : Int} {k1 : List (List Nat)} (h : OutP cap ks key p F E k1) (hc : (ks.length : Int) < cap) :
    F = (!decide (key ∈ ks)) ∧ E = 0 ∧ k1 = insK ks key ∧ p < k1.length ∧ k1.getD p [] = key ∧ (F = true → p = ks.length) := by
  rcases h with ⟨a1, rfl, rfl, rfl, a5, a6⟩ | ⟨a1, a2, _⟩ | ⟨a1, a2, rfl, rfl, rfl, rfl⟩
  · exact ⟨by simp [a1], rfl, by unfold insK; rw [if_pos a1], a5, a6, fun h => by cases h⟩
  · omega
  · exact ⟨by simp [a1], rfl, by unfold insK; rw [if_neg a1], by simp, by rw [List.getD_eq_getElem?_getD, List.getElem?_append_right (Nat.le_refl _), Nat.sub_self]; rfl, fun _ => rfl⟩
theorem insK_has {ks : List (List Nat)} {key k : List Nat} : decide (k ∈ insK ks key) = (decide (k ∈ ks) || decide (k = key)) := by
  rw [Bool.eq_iff_iff]
  simp [insK_mem]
theorem KeptT.also {w w' : World} {B : Nat} {ka : Option Addr} {n kc : Nat} {sa ka' : Option Addr} {sl sc : Nat} {n' : Nat} {sa' : Option Addr} {ks : List (List Nat)} {s : List Int} {rs : List (Nat × Nat)} (h : KeptT w w' B ka n sa ka' n' sa') (ho : TabM w' B ka n kc sa sl sc ks s rs)
    {kx : Option Addr} {nx kcx : Nat} {sx : Option Addr} {slx scx : Nat} {ksx : List (List Nat)} {xs : List Int} {rx : List (Nat × Nat)} (hx : TabM w B kx nx kcx sx slx scx ksx xs rx) (hb : (kx = ka ∧ nx = n ∧ kcx = kc ∧ sx = sa ∧ slx = sl ∧ scx = sc ∧ ksx = ks) ∨ Beside ka n sa kx nx sx) : ∃ s' rs', TabM w' B kx nx kcx sx slx scx ksx s' rs' := by
  rcases hb with ⟨rfl, rfl, rfl, rfl, rfl, rfl, rfl⟩ | hb
  · exact ⟨_, _, ho⟩
  · exact ⟨_, _, h.tabs _ _ _ _ _ _ _ _ _ hx hb⟩
theorem Marked.nil {L' : List Nat} {p f : Nat} (h : Marked [] L' p f) (hf : f < 2) : hasB L' p f = true ∧ hasB L' p (1 - f) = false := by
  refine ⟨?_, ?_⟩
  · rw [h.1 p f hf]; simp
  · rw [h.1 p (1 - f) (by omega), hasB_out (by simp)]
    simp
    omega
theorem hasB_nil (p f : Nat) : hasB [] p f = false := hasB_out (by simp) f
end Go.Proofs.Ytbbdeefnooaacaa
