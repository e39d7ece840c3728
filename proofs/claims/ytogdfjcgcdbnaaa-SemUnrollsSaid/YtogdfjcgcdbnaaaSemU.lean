/- A word whose round is written once more (pure); rows of a word that are appended (by gen17q.py). -/
import Derived.Test.YtogdfjcgcdbnaaaAppB
namespace Go.Proofs.Ytogdfjcgcdbnaaa
open Go.RowKit
set_option linter.unusedVariables false
set_option linter.unusedSimpArgs false
def fold (n L i : Nat) : Nat := if i < n then i else L + i - n
theorem fold_lt {n L i : Nat} (hL : L < n) (hi : i < n + (n - L)) : fold n L i < n := by unfold fold; split <;> omega
theorem fold_twice {n L i : Nat} (hL : L < n) (hi : i < n + (n - L)) : fold n L (nextW (n + (n - L)) n i) = nextW n L (fold n L i) := by
  unfold fold nextW
  repeat' split
  all_goals omega
theorem fold_turn {n L i : Nat} (hL : L < n) (hi : i < n + 1) : fold n L (nextW (n + 1) (L + 1) i) = nextW n L (fold n L i) := by
  unfold fold nextW
  repeat' split
  all_goals omega
section
variable {n l n' l' : Nat} {f : Nat → Nat}
theorem untB_sim {a b a' b' : Nat → Bool} (hl' : l' < n') (hf : ∀ i, i < n' → f (nextW n' l' i) = nextW n l (f i)) (ha : ∀ i, i < n' → a' i = a (f i)) (hb : ∀ i, i < n' → b' i = b (f i)) : ∀ k i, i < n' → untB n' l' a' b' k i = untB n l a b k (f i)
  | 0, i, hi => hb i hi
  | k + 1, i, hi => by
    unfold untB
    rw [ha i hi, hb i hi, untB_sim hl' hf ha hb k _ (nextW_lt hl'), hf i hi]
theorem untU_sim {a b a' b' : Nat → Bool} (hl' : l' < n') (hf : ∀ i, i < n' → f (nextW n' l' i) = nextW n l (f i)) (ha : ∀ i, i < n' → a' i = a (f i)) (hb : ∀ i, i < n' → b' i = b (f i)) (i : Nat) (hi : i < n') : untU n' l' a' b' i = untU n l a b (f i) := by
  have h : (∃ k, untB n' l' a' b' k i = true) ↔ ∃ k, untB n l a b k (f i) = true := exists_congr fun k => by rw [untB_sim hl' hf ha hb k i hi]
  unfold untU
  exact Bool.eq_iff_iff.2 (by simp only [decide_eq_true_eq]; exact h)
theorem relU_sim {a b a' b' : Nat → Bool} (hl' : l' < n') (hf : ∀ i, i < n' → f (nextW n' l' i) = nextW n l (f i)) (ha : ∀ i, i < n' → a' i = a (f i)) (hb : ∀ i, i < n' → b' i = b (f i)) (i : Nat) (hi : i < n') : relU n' l' a' b' i = relU n l a b (f i) := by
  unfold relU
  rw [untU_sim (a := fun j => !a j) (b := fun j => !b j) hl' hf (fun j hj => by rw [ha j hj]) (fun j hj => by rw [hb j hj]) i hi]
theorem hT_lit (n l : Nat) (row : Nat → List Int) (op m pl : Int) (len : Nat) (sub : Nat → T) (i : Nat) (h : op < 15) : hT n l row (.node op m pl len sub) i = decide (evT (row i) (.node op m pl len sub) = 1) := by
  rw [hT, if_pos h]
theorem hT_high (n l : Nat) (row : Nat → List Int) (op m pl : Int) (len : Nat) (sub : Nat → T) (i : Nat) (h : ¬ op < 15) (h2 : ¬ (op = 15 ∨ op = 16 ∨ op = 17 ∨ op = 18 ∨ op = 19 ∨ op = 20 ∨ op = 21 ∨ op = 22 ∨ op = 23)) : hT n l row (.node op m pl len sub) i = relU n l (hT n l row (sub 0)) (hT n l row (sub 1)) i := by
  rw [hT, if_neg h, if_neg (by omega), if_neg (by omega), if_neg (by omega), if_neg (by omega), if_neg (by omega), if_neg (by omega), if_neg (by omega), if_neg (by omega), if_neg (by omega)]
theorem hT_sim {row row' : Nat → List Int} (hl' : l' < n') (hf : ∀ i, i < n' → f (nextW n' l' i) = nextW n l (f i)) (hr : ∀ i, i < n' → row' i = row (f i)) : ∀ t i, i < n' → hT n' l' row' t i = hT n l row t (f i) := by
  intro t
  induction t with
  | nil => intro i hi; rfl
  | node op m pl len sub ih =>
    intro i hi
    have e0 := ih 0 i hi
    have e1 := ih 1 i hi
    by_cases h : op < 15
    · rw [hT_lit _ _ _ _ _ _ _ _ _ h, hT_lit _ _ _ _ _ _ _ _ _ h, hr i hi]
    · by_cases h2 : op = 15 ∨ op = 16 ∨ op = 17 ∨ op = 18 ∨ op = 19 ∨ op = 20 ∨ op = 21 ∨ op = 22 ∨ op = 23
      · rcases h2 with rfl | rfl | rfl | rfl | rfl | rfl | rfl | rfl | rfl
        · rw [hT_15, hT_15, e0]
        · rw [hT_16, hT_16, e0, e1]
        · rw [hT_17, hT_17, e0, e1]
        · rw [hT_18, hT_18, e0, e1]
        · rw [hT_19, hT_19, e0, e1]
        · rw [hT_20, hT_20, ih 0 _ (nextW_lt hl'), hf i hi]
        · rw [hT_21, hT_21]; exact untU_sim (a := fun _ => true) (a' := fun _ => true) hl' hf (fun _ _ => rfl) (fun j hj => ih 0 j hj) i hi
        · rw [hT_22, hT_22]; exact relU_sim (a := fun _ => false) (a' := fun _ => false) hl' hf (fun _ _ => rfl) (fun j hj => ih 0 j hj) i hi
        · rw [hT_23, hT_23]; exact untU_sim hl' hf (fun j hj => ih 0 j hj) (fun j hj => ih 1 j hj) i hi
      · rw [hT_high _ _ _ _ _ _ _ _ _ h h2, hT_high _ _ _ _ _ _ _ _ _ h h2]
        exact relU_sim hl' hf (fun j hj => ih 0 j hj) (fun j hj => ih 1 j hj) i hi
end
theorem hT_twice {n L : Nat} (hL : L < n) (row : Nat → List Int) (t : T) (i : Nat) (hi : i < n + (n - L)) : hT (n + (n - L)) n (fun i => row (fold n L i)) t i = hT n L row t (fold n L i) :=
  hT_sim (by omega) (fun i hi => fold_twice hL hi) (fun _ _ => rfl) t i hi
theorem hT_turn {n L : Nat} (hL : L < n) (row : Nat → List Int) (t : T) (i : Nat) (hi : i < n + 1) : hT (n + 1) (L + 1) (fun i => row (fold n L i)) t i = hT n L row t (fold n L i) :=
  hT_sim (by omega) (fun i hi => fold_turn hL hi) (fun _ _ => rfl) t i hi
/-- A word's rows, as values. -/
def RowV (w : World) (vals : List Value) (row : Nat → List Int) : Prop := ∀ j u, vals[j]? = some u → ∃ (ra : Option Addr) (rl rc : Nat), u = .slice ra rl rc ∧ IntsAt w ra rl (row j)
theorem RowV.mono {w w' : World} {vals : List Value} {row : Nat → List Int} (h : RowV w vals row) (hb : Below w.heap.size w w') : RowV w' vals row := fun j u hj => by
  obtain ⟨ra, rl, rc, h1, h2⟩ := h j u hj
  exact ⟨ra, rl, rc, h1, h2.mono hb⟩
theorem RowV.one {w : World} {vals : List Value} {row : Nat → List Int} (h : RowV w vals row) : ∀ u ∈ vals, u.oneCell' = true := fun u hu => by
  obtain ⟨j, hj⟩ := List.getElem?_of_mem hu
  obtain ⟨ra, rl, rc, rfl, _⟩ := h j u hj
  rfl
theorem WordAt.vals {w : World} {wa : Option Addr} {wn : Nat} {row : Nat → List Int} (h : WordAt w wa wn row) (h0 : 0 < wn) : ∃ b off vals, wa = some ⟨b, off, none⟩ ∧ b < w.heap.size ∧ vals.length = wn ∧ (∀ j u, vals[j]? = some u → w.cell? ⟨b, off + j, none⟩ = some u) ∧ RowV w vals row := by
  obtain ⟨b, off, ha, hlt, hi⟩ := h.resolve_left (by omega)
  have key : ∀ i, ∃ u : Value, i < wn → w.cell? ⟨b, off + i, none⟩ = some u ∧ ∃ (ra : Option Addr) (rl rc : Nat), u = .slice ra rl rc ∧ IntsAt w ra rl (row i) := by
    intro i
    by_cases hin : i < wn
    · obtain ⟨ra, rl, rc, h1, h2⟩ := hi i hin
      exact ⟨_, fun _ => ⟨h1, ra, rl, rc, rfl, h2⟩⟩
    · exact ⟨.slice none 0 0, fun hh => absurd hh hin⟩
  obtain ⟨f, hf⟩ := Classical.axiomOfChoice key
  have hv : ∀ j u, ((List.range wn).map f)[j]? = some u → j < wn ∧ u = f j := fun j u hj => by
    rw [List.getElem?_map] at hj
    by_cases hjn : j < wn
    · rw [List.getElem?_range hjn] at hj
      simp at hj
      exact ⟨hjn, hj.symm⟩
    · rw [List.getElem?_eq_none (by simp; omega)] at hj
      cases hj
  refine ⟨b, off, (List.range wn).map f, ha, hlt, by simp, fun j u hj => ?_, fun j u hj => ?_⟩
  · obtain ⟨hjn, rfl⟩ := hv j u hj
    exact (hf j hjn).1
  · obtain ⟨hjn, rfl⟩ := hv j u hj
    exact (hf j hjn).2
theorem own_shape {w : World} {base : Nat} {e : TypeId} {v : Value} {n : Nat} {xs : List Value} (h : w.ownsRow base e 1 v n xs) (h0 : 0 < n) : ∃ g c, v = .slice (some ⟨g, 0, none⟩) n c ∧ base ≤ g ∧ g < w.heap.size := by
  rcases h.2 with ⟨_, h1⟩ | ⟨g, cap, cur, rfl, h1, h3, _⟩
  · omega
  · exact ⟨g, cap, rfl, h1, (Array.getElem?_eq_some_iff.1 h3).1⟩
theorem own_off {w : World} {base : Nat} {e t : TypeId} {v : Value} {n g : Nat} {xs : List Value} {row : Array Value} (h : w.ownsRow base e 1 v n xs) (hg : w.heap[g]? = some (.cells row t (0, 0))) (hne : e ≠ t) : some g ≠ v.ownBlock := by
  rcases h.2 with ⟨rfl, _⟩ | ⟨g', cap, cur, rfl, _, h3, _⟩
  · simp [Value.ownBlock]
  · intro he
    simp [Value.ownBlock] at he
    subst he
    rw [h3] at hg
    simp at hg
    exact hne hg.2
theorem own_word {w w' : World} {base n g c : Nat} {e : TypeId} {xs : List Value} {row : Nat → List Int} (h : w.ownsRow base e 1 (.slice (some ⟨g, 0, none⟩) n c) n xs) (hg : w'.heap[g]? = w.heap[g]?) (hv : RowV w' xs row) : WordAt w' (some ⟨g, 0, none⟩) n row := by
  rcases h.2 with ⟨h0, _⟩ | ⟨g', cap, cur, he, h1, h3, h4, h5, h6, h7⟩
  · cases h0
  cases he
  have hlt : g < w'.heap.size := (Array.getElem?_eq_some_iff.1 (hg.trans h3)).1
  refine .inr ⟨g, 0, rfl, hlt, fun i hi => ?_⟩
  have hxl := h.1
  obtain ⟨u, hu⟩ : ∃ u, xs[i]? = some u := ⟨xs[i]'(by omega), List.getElem?_eq_getElem _⟩
  obtain ⟨ra, rl, rc, rfl, hi2⟩ := hv i u hu
  refine ⟨ra, rl, rc, ?_, hi2⟩
  rw [← h7, List.getElem?_take] at hu
  split at hu
  · rw [Nat.zero_add]
    exact cell_of_row _ _ i _ _ _ (hg.trans h3) |>.trans (by simpa using hu)
  · cases hu
theorem row_alloc {w : World} {g : Nat} {o : Obj} (x : Obj) (h : w.heap[g]? = some o) : (w.alloc x).heap[g]? = some o := (Below.heap_alloc _ _ _ (Nat.ne_of_lt (Array.getElem?_eq_some_iff.1 h).1 |> fun _ => (Array.getElem?_eq_some_iff.1 h).1)).trans h
theorem row_bel {w w' : World} {g : Nat} {o : Obj} (b : Below w.heap.size w w') (h : w.heap[g]? = some o) : w'.heap[g]? = some o := (b.block g (Array.getElem?_eq_some_iff.1 h).1).trans h
theorem two_bel {w2 w : World} {g : Nat} (a b : Value) (h : Below w2.heap.size w2 w) (hg : w2.heap.size ≤ g) : Below w2.heap.size w2 ((w.setCell ⟨g, 0, none⟩ a).setCell ⟨g, 1, none⟩ b) := (h.setCell (p := ⟨g, 0, none⟩) hg a).setCell (p := ⟨g, 1, none⟩) hg b
theorem two_oth (w : World) {g k : Nat} (a b : Value) (h : k ≠ g) : ((w.setCell ⟨g, 0, none⟩ a).setCell ⟨g, 1, none⟩ b).heap[k]? = w.heap[k]? := (Below.heap_setCell _ _ _ _ h).trans (Below.heap_setCell _ _ _ _ h)
theorem Try.info_rowI : (Try.prog.info? 31).map (fun i => (i.zero, i.size, i.bytes)) = some (some (.slice none 0 0), 1, 24) := by kernel_rfl
theorem RowV.twice {w : World} {vals : List Value} {row : Nat → List Int} {n L : Nat} (h : RowV w vals row) (hl : vals.length = n) (hL : L < n) : RowV w (vals ++ vals.drop L) (fun i => row (fold n L i)) := fun j u hj => by
  show ∃ (ra : Option Addr) (rl rc : Nat), u = .slice ra rl rc ∧ IntsAt w ra rl (row (fold n L j))
  by_cases hjn : j < n
  · rw [List.getElem?_append_left (by omega)] at hj
    unfold fold
    rw [if_pos hjn]
    exact h j u hj
  · rw [List.getElem?_append_right (by omega), hl, List.getElem?_drop] at hj
    unfold fold
    rw [if_neg hjn, show L + j - n = L + (j - n) by omega]
    exact h _ u hj
theorem RowV.turn {w : World} {vals : List Value} {row : Nat → List Int} {n L : Nat} {v : Value} (h : RowV w vals row) (hl : vals.length = n) (hL : L < n) (hv : vals[L]? = some v) : RowV w (vals ++ [v]) (fun i => row (fold n L i)) := fun j u hj => by
  show ∃ (ra : Option Addr) (rl rc : Nat), u = .slice ra rl rc ∧ IntsAt w ra rl (row (fold n L j))
  by_cases hjn : j < n
  · rw [List.getElem?_append_left (by omega)] at hj
    unfold fold
    rw [if_pos hjn]
    exact h j u hj
  · rw [List.getElem?_append_right (by omega), hl] at hj
    obtain hz : j - n = 0 := by
      cases hq : j - n with
      | zero => rfl
      | succ q => rw [hq] at hj; simp at hj
    rw [hz] at hj
    simp at hj
    subst hj
    unfold fold
    rw [if_neg hjn, show L + j - n = L by omega]
    exact h L v hv
end Go.Proofs.Ytogdfjcgcdbnaaa
