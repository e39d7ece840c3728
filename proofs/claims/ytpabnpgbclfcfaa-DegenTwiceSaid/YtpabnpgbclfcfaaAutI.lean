/- degen.Of (by gen19i.py). -/
import Derived.Test.YtpabnpgbclfcfaaKeepF
namespace Go.Proofs.Ytpabnpgbclfcfaa
open Go.RowKit
set_option linter.unusedVariables false
set_option linter.unusedSimpArgs false

theorem own_sl {w : World} {base n : Nat} {e : TypeId} {v : Value} {xs : List Value} (h : w.ownsRow base e 1 v n xs) : ∃ a c, v = .slice a n c := by
  rcases h.2 with ⟨rfl, rfl⟩ | ⟨g, cp, cur, rfl, _⟩
  · exact ⟨_, _, rfl⟩
  · exact ⟨_, _, rfl⟩
theorem Try.info_exprs : (Try.prog.info? 38).map (fun i => (i.zero, i.size, i.bytes)) = some (some (.slice none 0 0), 1, 24) := by kernel_rfl
theorem Try.info_ints : (Try.prog.info? 24).map (fun i => (i.zero, i.size, i.bytes)) = some (some (.slice none 0 0), 1, 24) := by kernel_rfl
/-- Numbers of states of a set. -/
def numsO (K s : Nat) (l : List Int) : List Int := l.map fun y => y * (K : Int) + (s : Int)
def setO (K : Nat) (f : Nat → Nat → Bool) (i q : Nat) : Nat := if f i q = true then (i + 1) % K else i
def nextO (K : Nat) (f : Nat → Nat → Bool) (next : Nat → List Int) (x : Nat) : List Int := numsO K (setO K f (x % K) (x / K)) (next (x / K))
def accO (K : Nat) (f : Nat → Nat → Bool) (n : Nat) : List Int := ((List.range n).filter fun q => f 0 q).map fun (q : Nat) => ((q : Int) * (K : Int))
theorem accO_succ (K : Nat) (f : Nat → Nat → Bool) (n : Nat) : accO K f (n + 1) = accO K f n ++ (if f 0 n = true then [(n : Int) * (K : Int)] else []) := by
  unfold accO
  rw [List.range_succ, List.filter_append, List.map_append]
  congr 1
  by_cases h : f 0 n = true
  · rw [if_pos h]; simp [h]
  · rw [if_neg h]; simp [h]
theorem accO_len (K : Nat) (f : Nat → Nat → Bool) (n : Nat) : (accO K f n).length ≤ n := by
  unfold accO
  rw [List.length_map]
  exact Nat.le_trans (List.length_filter_le _ _) (by simp)
/-- What is known as the automaton's head is made, by what is done. -/
structure XH (W : World) (lI : List Int) (L : Nat → Bool) (u : Nat → Value) (w : World) : Prop where
  bel : Below W.heap.size W w
  c3 : L 3 = true → NumP W.heap.size w.heap.size lI (u 16) w
  c4 : L 4 = true → ∃ h, u 17 = .slice (some ⟨h, 0, none⟩) 1 1 ∧ W.heap.size ≤ h ∧ w.heap[h]? = some (.cells #[.slice none 0 0] 24 (0, 0))
  c5 : L 5 = true → u 18 = .agg #[.slice none 0 0, .slice none 0 0, u 16, u 17]
  c6 : L 6 = true → L 7 = false → ∃ g, u 5 = .pointer (some ⟨g, 0, none⟩) ∧ W.heap.size ≤ g ∧ w.heap[g]? = some (.cells #[.slice none 0 0, .slice none 0 0, .slice none 0 0, .slice none 0 0] 26 (0, 0))
  c7 : L 7 = true → ∃ g, u 5 = .pointer (some ⟨g, 0, none⟩) ∧ W.heap.size ≤ g ∧ w.heap[g]? = some (.cells #[.slice none 0 0, .slice none 0 0, u 16, u 17] 26 (0, 0))
theorem XH.mem {W w w' : World} {lI : List Int} {L : Nat → Bool} {u : Nat → Value} (h : XH W lI L u w) (b : Below w.heap.size w w') : XH W lI L u w' where
  bel := below_then h.bel b
  c3 := fun hh => by
    obtain ⟨g, e1, e2, e3, e4⟩ := h.c3 hh
    exact ⟨g, e1, e2, Nat.lt_of_lt_of_le e3 b.size, e4.of_block (b.block g e3)⟩
  c4 := fun hh => by
    obtain ⟨g, e1, e2, e3⟩ := h.c4 hh
    exact ⟨g, e1, e2, (b.block g (Array.getElem?_eq_some_iff.1 e3).1).trans e3⟩
  c5 := h.c5
  c6 := fun hh h7 => by
    obtain ⟨g, e1, e2, e3⟩ := h.c6 hh h7
    exact ⟨g, e1, e2, (b.block g (Array.getElem?_eq_some_iff.1 e3).1).trans e3⟩
  c7 := fun hh => by
    obtain ⟨g, e1, e2, e3⟩ := h.c7 hh
    exact ⟨g, e1, e2, (b.block g (Array.getElem?_eq_some_iff.1 e3).1).trans e3⟩
theorem XH.same' {W w : World} {lI : List Int} {L L' : Nat → Bool} {u u' : Nat → Value} (h : XH W lI L u w) (e3 : L' 3 = L 3) (e4 : L' 4 = L 4) (e5 : L' 5 = L 5) (e6 : L' 6 = L 6) (e7 : L' 7 = L 7) (f16 : u' 16 = u 16) (f17 : u' 17 = u 17) (f18 : u' 18 = u 18) (f5 : u' 5 = u 5) : XH W lI L' u' w := by
  constructor
  · exact h.bel
  · rw [e3, f16]; exact h.c3
  · rw [e4, f17]; exact h.c4
  · rw [e5, f18, f16, f17]; exact h.c5
  · rw [e6, e7, f5]; exact h.c6
  · rw [e7, f5, f16, f17]; exact h.c7
theorem XH.s3 {W w w' : World} {lI : List Int} {L : Nat → Bool} {u : Nat → Value} (h : XH W lI L u w) (h5 : L 5 = false) (h7 : L 7 = false) (b : Below w.heap.size w w') (v : Value) (hv : NumP w.heap.size w'.heap.size lI v w') : XH W lI (updL L 3) (updV u 16 v) w' := by
  have h' := h.mem b
  refine ⟨h'.bel, fun _ => ?_, h'.c4, fun hh => ?_, h'.c6, fun hh => ?_⟩
  · obtain ⟨g, e1, e2, e3, e4⟩ := hv
    exact ⟨g, e1, Nat.le_trans h.bel.size e2, e3, e4⟩
  · have : L 5 = true := hh
    rw [h5] at this; cases this
  · have : L 7 = true := hh
    rw [h7] at this; cases this
theorem XH.s4 {W w : World} {lI : List Int} {L : Nat → Bool} {u : Nat → Value} (h : XH W lI L u w) (h5 : L 5 = false) (h7 : L 7 = false) : XH W lI (updL L 4) (updV u 17 (.slice (some ⟨w.heap.size, 0, none⟩) 1 1)) (w.alloc (.cells #[.slice none 0 0] 24)) := by
  have h' := h.mem ((Below.refl _ _).alloc (Nat.le_refl _) (.cells #[.slice none 0 0] 24))
  refine ⟨h'.bel, h'.c3, fun _ => ⟨w.heap.size, rfl, h.bel.size, heap_alloc_new w _⟩, fun hh => ?_, h'.c6, fun hh => ?_⟩
  · have : L 5 = true := hh
    rw [h5] at this; cases this
  · have : L 7 = true := hh
    rw [h7] at this; cases this
theorem XH.s5 {W w : World} {lI : List Int} {L : Nat → Bool} {u : Nat → Value} (h : XH W lI L u w) : XH W lI (updL L 5) (updV u 18 (.agg #[.slice none 0 0, .slice none 0 0, u 16, u 17])) w :=
  ⟨h.bel, h.c3, h.c4, fun _ => rfl, h.c6, h.c7⟩
theorem XH.s6 {W w : World} {lI : List Int} {L : Nat → Bool} {u : Nat → Value} (h : XH W lI L u w) (h7 : L 7 = false) : XH W lI (updL L 6) (updV u 5 (.pointer (some ⟨w.heap.size, 0, none⟩))) (w.alloc (.cells #[.slice none 0 0, .slice none 0 0, .slice none 0 0, .slice none 0 0] 26)) := by
  have h' := h.mem ((Below.refl _ _).alloc (Nat.le_refl _) (.cells #[.slice none 0 0, .slice none 0 0, .slice none 0 0, .slice none 0 0] 26))
  refine ⟨h'.bel, h'.c3, h'.c4, h'.c5, fun _ _ => ⟨w.heap.size, rfl, h.bel.size, heap_alloc_new w _⟩, fun hh => ?_⟩
  have : L 7 = true := hh
  rw [h7] at this; cases this
theorem XH.s7 {W w : World} {lI : List Int} {L : Nat → Bool} {u : Nat → Value} (h : XH W lI L u w) {g : Nat} (h5 : u 5 = .pointer (some ⟨g, 0, none⟩)) (hg : W.heap.size ≤ g) (hr : w.heap[g]? = some (.cells #[.slice none 0 0, .slice none 0 0, .slice none 0 0, .slice none 0 0] 26 (0, 0))) {d : Nat} (hd : 1000000 ≤ d) (y : Value) : XH W lI (updL L 7) (updV u d y) ((((w.setCell ⟨g, 0, none⟩ (.slice none 0 0)).setCell ⟨g, 1, none⟩ (.slice none 0 0)).setCell ⟨g, 2, none⟩ (u 16)).setCell ⟨g, 3, none⟩ (u 17)) := by
  have e := four_set w g (.slice none 0 0) (.slice none 0 0) (u 16) (u 17)
  have r := four_rowU w g (.slice none 0 0) (.slice none 0 0) (u 16) (u 17) _ _ _ _ _ hr
  have hz : ((((w.setCell ⟨g, 0, none⟩ (.slice none 0 0)).setCell ⟨g, 1, none⟩ (.slice none 0 0)).setCell ⟨g, 2, none⟩ (u 16)).setCell ⟨g, 3, none⟩ (u 17)).heap.size = w.heap.size := by simp [World.setCell]
  have up : ∀ k, k < 1000000 → updV u d y k = u k := fun k hk => if_neg (by omega)
  refine ⟨⟨h.bel.os, h.bel.tape, h.bel.output, by rw [hz]; exact h.bel.size, fun b hb => (e b (by omega)).trans (h.bel.block b hb)⟩, fun hh => ?_, fun hh => ?_, fun hh => ?_, (fun _ hh => by cases hh), fun _ => ?_⟩
  · obtain ⟨b, e1, e2, e3, e4⟩ := h.c3 hh
    rw [up 16 (by decide)]
    refine ⟨b, e1, e2, by rw [hz]; exact e3, e4.of_block (e b fun he => ?_)⟩
    obtain ⟨c, hc, _⟩ := e4
    rw [he, hr] at hc
    simp at hc
  · obtain ⟨b, e1, e2, e3⟩ := h.c4 hh
    rw [up 17 (by decide)]
    refine ⟨b, e1, e2, (e b fun he => ?_).trans e3⟩
    rw [he, hr] at e3
    simp at e3
  · rw [up 18 (by decide), up 16 (by decide), up 17 (by decide)]
    exact h.c5 hh
  · rw [up 5 (by decide), up 16 (by decide), up 17 (by decide)]
    exact ⟨g, h5, hg, r⟩
end Go.Proofs.Ytpabnpgbclfcfaa
