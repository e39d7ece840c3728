/- The document's Insert: what is known of its rows, by what is done (by gen05w.py). -/
import Derived.Test.YtoffcpfebghdnaaPairR
namespace Go.Proofs.Ytoffcpfebghdnaa
open Go.RowKit
set_option linter.unusedVariables false
set_option linter.unusedSimpArgs false
def chV (p q : Bool) (x y z : Value) : Value := bif p then x else bif q then y else z
def chN (p q : Bool) (n : Nat) : Nat := bif p then n + 1 else bif q then n else 0
def chX (p q : Bool) (xs : List Value) (x : Value) : List Value := bif p then xs ++ [x] else bif q then xs else []
def aV (L : Nat → Bool) (u : Nat → Value) : Value := chV (L 8) (L 5) (u 37) (u 34) (u 31)
def bV (L : Nat → Bool) (u : Nat → Value) : Value := chV (L 15) (L 12) (u 44) (u 41) (u 38)
def Box1 (W w : World) (v x : Value) : Prop := ∃ g, v = .slice (some ⟨g, 0, none⟩) 1 1 ∧ W.heap.size ≤ g ∧ w.cell? ⟨g, 0, none⟩ = some x
theorem Box1.bel {W w w' : World} {v x : Value} (h : Box1 W w v x) (b : Below w.heap.size w w') : Box1 W w' v x := by
  obtain ⟨g, h1, h2, h3⟩ := h
  exact ⟨g, h1, h2, (b.cell (World.block_lt_of_cell? w _ h3)).trans h3⟩
theorem Box1.lt {W w : World} {v x : Value} (h : Box1 W w v x) : ∃ g, v.ownBlock = some g ∧ g < w.heap.size ∧ W.heap.size ≤ g := by
  obtain ⟨g, rfl, h2, h3⟩ := h
  exact ⟨g, rfl, World.block_lt_of_cell? w _ h3, h2⟩
theorem Box1.past {W w w' : World} {v x : Value} (h : Box1 W w v x) (b : ∀ g, v.ownBlock = some g → g < w.heap.size → w'.heap[g]? = w.heap[g]?) : Box1 W w' v x := by
  obtain ⟨g, rfl, h2, h3⟩ := h
  exact ⟨g, rfl, h2, (World.cell?_of_block (b g rfl (World.block_lt_of_cell? w _ h3))).trans h3⟩
structure XI (W : World) (g6 : Nat) (cap : Int) (n : Nat) (xa xb : List Value) (x y : Value) (L : Nat → Bool) (u : Nat → Value) (w : World) : Prop where
  lt : g6 < W.heap.size
  size : W.heap.size ≤ w.heap.size
  bel : Below g6 W w
  rA : L 2 = true → w.ownsRow W.heap.size 23 1 (aV L u) (chN (L 8) (L 5) n) (chX (L 8) (L 5) xa x)
  rB : L 9 = true → w.ownsRow W.heap.size 23 1 (bV L u) (chN (L 15) (L 12) n) (chX (L 15) (L 12) xb y)
  c36 : L 7 = true → L 8 = false → Box1 W w (u 36) x
  c43 : L 14 = true → L 15 = false → Box1 W w (u 43) y
  d1 : L 2 = true → L 7 = true → L 8 = false → (aV L u).ownBlock ≠ (u 36).ownBlock
  d2 : L 2 = true → L 9 = true → (aV L u).ownBlock = none ∨ (bV L u).ownBlock = none ∨ (aV L u).ownBlock ≠ (bV L u).ownBlock
  d3 : L 2 = true → L 14 = true → L 15 = false → (aV L u).ownBlock ≠ (u 43).ownBlock
  d4 : L 9 = true → L 14 = true → L 15 = false → (bV L u).ownBlock ≠ (u 43).ownBlock
  r45 : L 16 = true → u 45 = .agg #[.int .i64 cap, u 37, u 44]
  res0 : L 20 = false → w.heap[g6]? = some (.cells #[.int .i64 0, .slice none 0 0, .slice none 0 0] 38 (0, 0))
  res1 : L 20 = true → w.heap[g6]? = some (.cells #[.int .i64 cap, u 37, u 44] 38 (0, 0))
section
variable {W w : World} {g6 : Nat} {cap : Int} {n : Nat} {xa xb : List Value} {x y : Value} {L : Nat → Bool} {u : Nat → Value}
theorem XI.mem (h : XI W g6 cap n xa xb x y L u w) {w' : World} (b : Below w.heap.size w w') : XI W g6 cap n xa xb x y L u w' where
  lt := h.lt
  size := Nat.le_trans h.size b.size
  bel := h.bel.trans (b.mono (Nat.le_trans (Nat.le_of_lt h.lt) h.size))
  rA := fun h2 => own_bel (h.rA h2) b
  rB := fun h2 => own_bel (h.rB h2) b
  c36 := fun h1 h2 => (h.c36 h1 h2).bel b
  c43 := fun h1 h2 => (h.c43 h1 h2).bel b
  d1 := h.d1
  d2 := h.d2
  d3 := h.d3
  d4 := h.d4
  r45 := h.r45
  res0 := fun h2 => (b.block g6 (Nat.lt_of_lt_of_le h.lt h.size)).trans (h.res0 h2)
  res1 := fun h2 => (b.block g6 (Nat.lt_of_lt_of_le h.lt h.size)).trans (h.res1 h2)
/-- Other letters for the same things. -/
theorem XI.same (h : XI W g6 cap n xa xb x y L u w) {L' : Nat → Bool} {u' : Nat → Value} (e2 : L' 2 = L 2) (e5 : L' 5 = L 5) (e7 : L' 7 = L 7) (e8 : L' 8 = L 8) (e9 : L' 9 = L 9) (e12 : L' 12 = L 12) (e14 : L' 14 = L 14) (e15 : L' 15 = L 15) (e16 : L' 16 = L 16) (e20 : L' 20 = L 20)
    (f31 : u' 31 = u 31) (f34 : u' 34 = u 34) (f36 : u' 36 = u 36) (f37 : u' 37 = u 37) (f38 : u' 38 = u 38) (f41 : u' 41 = u 41) (f43 : u' 43 = u 43) (f44 : u' 44 = u 44) (f45 : u' 45 = u 45) : XI W g6 cap n xa xb x y L' u' w := by
  have ea : aV L' u' = aV L u := by unfold aV; rw [e8, e5, f37, f34, f31]
  have eb : bV L' u' = bV L u := by unfold bV; rw [e15, e12, f44, f41, f38]
  constructor
  · exact h.lt
  · exact h.size
  · exact h.bel
  · rw [e2, ea, e8, e5]; exact h.rA
  · rw [e9, eb, e15, e12]; exact h.rB
  · rw [e7, e8, f36]; exact h.c36
  · rw [e14, e15, f43]; exact h.c43
  · rw [e2, e7, e8, ea, f36]; exact h.d1
  · rw [e2, e9, ea, eb]; exact h.d2
  · rw [e2, e14, e15, ea, f43]; exact h.d3
  · rw [e9, e14, e15, eb, f43]; exact h.d4
  · rw [e16, f45, f37, f44]; exact h.r45
  · rw [e20]; exact h.res0
  · rw [e20, f37, f44]; exact h.res1
theorem own_low' {w : World} {base n : Nat} {e : TypeId} {v : Value} {xs : List Value} (h : w.ownsRow base e 1 v n xs) {k : Nat} (hk : v.ownBlock = some k) : base ≤ k ∧ k < w.heap.size := h.lt k hk
theorem XI.s2 (h : XI W g6 cap n xa xb x y L u w) (h5 : L 5 = false) (h8 : L 8 = false) (h16 : L 16 = false) (h20 : L 20 = false) : XI W g6 cap n xa xb x y (updL L 2) (updV u 31 (.slice (some ⟨w.heap.size, 0, none⟩) 0 0)) (w.alloc (.cells #[] 23)) := by
  have b : Below w.heap.size w (w.alloc (.cells #[] 23)) := (Below.refl _ _).alloc (Nat.le_refl _) _
  have h' := h.mem b
  have ea : aV (updL L 2) (updV u 31 (.slice (some ⟨w.heap.size, 0, none⟩) 0 0)) = .slice (some ⟨w.heap.size, 0, none⟩) 0 0 := by
    show chV (L 8) (L 5) _ _ _ = _
    rw [h8, h5]; rfl
  have eb : bV (updL L 2) (updV u 31 (.slice (some ⟨w.heap.size, 0, none⟩) 0 0)) = bV L u := rfl
  constructor
  · exact h.lt
  · exact h'.size
  · exact h'.bel
  · intro _
    rw [ea]
    show World.ownsRow _ _ _ _ _ (chN (L 8) (L 5) n) (chX (L 8) (L 5) xa x)
    rw [h8, h5]
    exact World.ownsRow_made w #[] 0 h.size (by unfold maxLen; omega) rfl
  · exact h'.rB
  · exact h'.c36
  · exact h'.c43
  · intro _ h7 h8'
    rw [ea]
    obtain ⟨g, e1, e2, _⟩ := (h.c36 h7 h8').lt
    show _ ≠ (u 36).ownBlock
    rw [e1]
    simp [Value.ownBlock]
    omega
  · intro _ h9
    rw [ea, eb]
    cases hb : (bV L u).ownBlock with
    | none => exact .inr (.inl rfl)
    | some k =>
      have := own_low' (h.rB h9) hb
      refine .inr (.inr ?_)
      simp [Value.ownBlock]
      omega
  · intro _ h14 h15
    rw [ea]
    obtain ⟨g, e1, e2, _⟩ := (h.c43 h14 h15).lt
    show _ ≠ (u 43).ownBlock
    rw [e1]
    simp [Value.ownBlock]
    omega
  · exact h'.d4
  · exact h'.r45
  · exact h'.res0
  · exact h'.res1
theorem XI.s9 (h : XI W g6 cap n xa xb x y L u w) (h5 : L 12 = false) (h8 : L 15 = false) (h16 : L 16 = false) (h20 : L 20 = false) : XI W g6 cap n xa xb x y (updL L 9) (updV u 38 (.slice (some ⟨w.heap.size, 0, none⟩) 0 0)) (w.alloc (.cells #[] 23)) := by
  have b : Below w.heap.size w (w.alloc (.cells #[] 23)) := (Below.refl _ _).alloc (Nat.le_refl _) _
  have h' := h.mem b
  have ea : bV (updL L 9) (updV u 38 (.slice (some ⟨w.heap.size, 0, none⟩) 0 0)) = .slice (some ⟨w.heap.size, 0, none⟩) 0 0 := by
    show chV (L 15) (L 12) _ _ _ = _
    rw [h8, h5]; rfl
  have eb : aV (updL L 9) (updV u 38 (.slice (some ⟨w.heap.size, 0, none⟩) 0 0)) = aV L u := rfl
  constructor
  · exact h.lt
  · exact h'.size
  · exact h'.bel
  · exact h'.rA
  · intro _
    rw [ea]
    show World.ownsRow _ _ _ _ _ (chN (L 15) (L 12) n) (chX (L 15) (L 12) xb y)
    rw [h8, h5]
    exact World.ownsRow_made w #[] 0 h.size (by unfold maxLen; omega) rfl
  · exact h'.c36
  · exact h'.c43
  · exact h'.d1
  · intro h2 _
    rw [ea, eb]
    cases hb : (aV L u).ownBlock with
    | none => exact .inl rfl
    | some k =>
      have := own_low' (h.rA h2) hb
      refine .inr (.inr ?_)
      simp [Value.ownBlock]
      omega
  · exact h'.d3
  · intro _ h14 h15
    rw [ea]
    obtain ⟨g, e1, e2, _⟩ := (h.c43 h14 h15).lt
    show _ ≠ (u 43).ownBlock
    rw [e1]
    simp [Value.ownBlock]
    omega
  · exact h'.r45
  · exact h'.res0
  · exact h'.res1
theorem XI.s7 (h : XI W g6 cap n xa xb x y L u w) : XI W g6 cap n xa xb x y (updL L 7) (updV u 36 (.slice (some ⟨w.heap.size, 0, none⟩) 1 1)) (w.alloc (.cells #[x] 23)) := by
  have b : Below w.heap.size w (w.alloc (.cells #[x] 23)) := (Below.refl _ _).alloc (Nat.le_refl _) _
  have h' := h.mem b
  constructor
  · exact h.lt
  · exact h'.size
  · exact h'.bel
  · exact h'.rA
  · exact h'.rB
  · exact fun _ _ => ⟨w.heap.size, rfl, h.size, cell_of_row _ _ 0 _ _ _ (heap_alloc_new w _)⟩
  · exact h'.c43
  · intro h2 _ h8
    cases hb : (aV L u).ownBlock with
    | none => show (aV L u).ownBlock ≠ some _; rw [hb]; simp
    | some k =>
      have := own_low' (h.rA h2) hb
      show (aV L u).ownBlock ≠ some w.heap.size
      rw [hb]
      simp
      omega
  · exact h'.d2
  · exact h'.d3
  · exact h'.d4
  · exact h'.r45
  · exact h'.res0
  · exact h'.res1
theorem XI.s14 (h : XI W g6 cap n xa xb x y L u w) : XI W g6 cap n xa xb x y (updL L 14) (updV u 43 (.slice (some ⟨w.heap.size, 0, none⟩) 1 1)) (w.alloc (.cells #[y] 23)) := by
  have b : Below w.heap.size w (w.alloc (.cells #[y] 23)) := (Below.refl _ _).alloc (Nat.le_refl _) _
  have h' := h.mem b
  constructor
  · exact h.lt
  · exact h'.size
  · exact h'.bel
  · exact h'.rA
  · exact h'.rB
  · exact h'.c36
  · exact fun _ _ => ⟨w.heap.size, rfl, h.size, cell_of_row _ _ 0 _ _ _ (heap_alloc_new w _)⟩
  · exact h'.d1
  · exact h'.d2
  · intro h2 _ h8
    cases hb : (aV L u).ownBlock with
    | none => show (aV L u).ownBlock ≠ some _; rw [hb]; simp
    | some k =>
      have := own_low' (h.rA h2) hb
      show (aV L u).ownBlock ≠ some w.heap.size
      rw [hb]
      simp
      omega
  · intro h2 _ h8
    cases hb : (bV L u).ownBlock with
    | none => show (bV L u).ownBlock ≠ some _; rw [hb]; simp
    | some k =>
      have := own_low' (h.rB h2) hb
      show (bV L u).ownBlock ≠ some w.heap.size
      rw [hb]
      simp
      omega
  · exact h'.r45
  · exact h'.res0
  · exact h'.res1
/-- One of the two rows grows. -/
theorem XI.sA (h : XI W g6 cap n xa xb x y L u w) (h2 : L 2 = true) (h16 : L 16 = false) (h20 : L 20 = false) {i d : Nat} {v' : Value} {w' : World} (hid : (i = 5 ∧ d = 34 ∧ L 8 = false) ∨ (i = 8 ∧ d = 37))
    (ho : w'.ownsRow W.heap.size 23 1 v' (chN (updL L i 8) (updL L i 5) n) (chX (updL L i 8) (updL L i 5) xa x)) (hg : w.grownBy w' (aV L u).ownBlock) (hb : v'.ownBlock = (aV L u).ownBlock ∨ v'.ownBlock = some w.heap.size) : XI W g6 cap n xa xb x y (updL L i) (updV u d v') w' := by
  have hA := h.rA h2
  have ea : aV (updL L i) (updV u d v') = v' := by
    rcases hid with ⟨rfl, rfl, h8⟩ | ⟨rfl, rfl⟩
    · show chV (L 8) true _ v' _ = v'
      rw [h8]; rfl
    · rfl
  have eb : bV (updL L i) (updV u d v') = bV L u := by
    rcases hid with ⟨rfl, rfl, h8⟩ | ⟨rfl, rfl⟩ <;> rfl
  have l : ∀ k, k ≠ 5 → k ≠ 8 → updL L i k = L k := fun k h1 h2 => if_neg (by omega)
  have lu : ∀ k, k ≠ 34 → k ≠ 37 → updV u d v' k = u k := fun k h1 h2 => if_neg (by omega)
  have l8 : updL L i 8 = false → L 8 = false := by
    rcases hid with ⟨rfl, rfl, h8⟩ | ⟨rfl, rfl⟩
    · exact fun _ => h8
    · intro h; cases h
  have hlow : ∀ k, (aV L u).ownBlock = some k → W.heap.size ≤ k := fun k hk => (own_low' hA hk).1
  have hw6 : g6 < w.heap.size := Nat.lt_of_lt_of_le h.lt h.size
  have h6 : w'.heap[g6]? = w.heap[g6]? := hg.block g6 hw6 fun he => by
    have := hlow g6 he.symm
    have := h.lt
    omega
  have ne : ∀ (z : Value) (k : Nat), z.ownBlock = some k → k < w.heap.size → (aV L u).ownBlock ≠ z.ownBlock → v'.ownBlock ≠ z.ownBlock := fun z k hz hk hne => by
    rcases hb with hb | hb
    · rw [hb]; exact hne
    · rw [hb, hz]; simp; omega
  constructor
  · exact h.lt
  · exact Nat.le_trans h.size hg.size
  · exact h.bel.grown hg (Nat.le_of_lt hw6) fun k hk => Nat.le_trans (Nat.le_of_lt h.lt) (hlow k hk)
  · intro _
    rw [ea]
    exact ho
  · rw [l 9 (by decide) (by decide), l 15 (by decide) (by decide), l 12 (by decide) (by decide), eb]
    intro h9
    refine (h.rB h9).kept hg ?_
    rcases h.d2 h2 h9 with e | e | e
    · rw [e]
      cases (bV L u).ownBlock with
      | none => exact .inl rfl
      | some k => exact .inr (by simp)
    · exact .inl e
    · exact .inr fun he => e he.symm
  · rw [l 7 (by decide) (by decide), lu 36 (by decide) (by decide)]
    intro h7 h8
    exact (h.c36 h7 (l8 h8)).past fun g hg' hlt => hg.block g hlt fun he => h.d1 h2 h7 (l8 h8) (by rw [hg', he])
  · rw [l 14 (by decide) (by decide), l 15 (by decide) (by decide), lu 43 (by decide) (by decide)]
    intro h14 h15
    exact (h.c43 h14 h15).past fun g hg' hlt => hg.block g hlt fun he => h.d3 h2 h14 h15 (by rw [hg', he])
  · rw [l 7 (by decide) (by decide), lu 36 (by decide) (by decide), ea]
    intro _ h7 h8
    obtain ⟨g, e1, e2, _⟩ := (h.c36 h7 (l8 h8)).lt
    exact ne _ g e1 e2 (h.d1 h2 h7 (l8 h8))
  · rw [l 9 (by decide) (by decide), ea, eb]
    intro _ h9
    cases hb' : (bV L u).ownBlock with
    | none => exact .inr (.inl rfl)
    | some k =>
      refine .inr (.inr ?_)
      have hk := own_low' (h.rB h9) hb'
      rcases h.d2 h2 h9 with e | e | e
      · rcases hb with hb | hb
        · rw [hb, e]; simp
        · rw [hb]; simp; omega
      · rw [hb'] at e; cases e
      · rw [← hb']
        exact ne _ k hb' hk.2 e
  · rw [l 14 (by decide) (by decide), l 15 (by decide) (by decide), lu 43 (by decide) (by decide), ea]
    intro _ h14 h15
    obtain ⟨g, e1, e2, _⟩ := (h.c43 h14 h15).lt
    exact ne _ g e1 e2 (h.d3 h2 h14 h15)
  · rw [l 9 (by decide) (by decide), l 14 (by decide) (by decide), l 15 (by decide) (by decide), lu 43 (by decide) (by decide), eb]
    exact h.d4
  · rw [l 16 (by decide) (by decide), h16]
    intro hh; cases hh
  · rw [l 20 (by decide) (by decide), h6]
    exact h.res0
  · rw [l 20 (by decide) (by decide), h20]
    intro hh; cases hh
theorem XI.sB (h : XI W g6 cap n xa xb x y L u w) (h2 : L 9 = true) (h16 : L 16 = false) (h20 : L 20 = false) (h8 : L 8 = true) {i d : Nat} {v' : Value} {w' : World} (hid : (i = 12 ∧ d = 41 ∧ L 15 = false) ∨ (i = 15 ∧ d = 44))
    (ho : w'.ownsRow W.heap.size 23 1 v' (chN (updL L i 15) (updL L i 12) n) (chX (updL L i 15) (updL L i 12) xb y)) (hg : w.grownBy w' (bV L u).ownBlock) (hb : v'.ownBlock = (bV L u).ownBlock ∨ v'.ownBlock = some w.heap.size) : XI W g6 cap n xa xb x y (updL L i) (updV u d v') w' := by
  have hA := h.rB h2
  have ea : bV (updL L i) (updV u d v') = v' := by
    rcases hid with ⟨rfl, rfl, h8⟩ | ⟨rfl, rfl⟩
    · show chV (L 15) true _ v' _ = v'
      rw [h8]; rfl
    · rfl
  have eb : aV (updL L i) (updV u d v') = aV L u := by
    rcases hid with ⟨rfl, rfl, h8⟩ | ⟨rfl, rfl⟩ <;> rfl
  have l : ∀ k, k ≠ 12 → k ≠ 15 → updL L i k = L k := fun k h1 h2 => if_neg (by omega)
  have lu : ∀ k, k ≠ 41 → k ≠ 44 → updV u d v' k = u k := fun k h1 h2 => if_neg (by omega)
  have l15 : updL L i 15 = false → L 15 = false := by
    rcases hid with ⟨rfl, rfl, h8⟩ | ⟨rfl, rfl⟩
    · exact fun _ => h8
    · intro h; cases h
  have hlow : ∀ k, (bV L u).ownBlock = some k → W.heap.size ≤ k := fun k hk => (own_low' hA hk).1
  have hw6 : g6 < w.heap.size := Nat.lt_of_lt_of_le h.lt h.size
  have h6 : w'.heap[g6]? = w.heap[g6]? := hg.block g6 hw6 fun he => by
    have := hlow g6 he.symm
    have := h.lt
    omega
  have ne : ∀ (z : Value) (k : Nat), z.ownBlock = some k → k < w.heap.size → (bV L u).ownBlock ≠ z.ownBlock → v'.ownBlock ≠ z.ownBlock := fun z k hz hk hne => by
    rcases hb with hb | hb
    · rw [hb]; exact hne
    · rw [hb, hz]; simp; omega
  constructor
  · exact h.lt
  · exact Nat.le_trans h.size hg.size
  · exact h.bel.grown hg (Nat.le_of_lt hw6) fun k hk => Nat.le_trans (Nat.le_of_lt h.lt) (hlow k hk)
  · rw [l 2 (by decide) (by decide), l 8 (by decide) (by decide), l 5 (by decide) (by decide), eb]
    intro h9
    refine (h.rA h9).kept hg ?_
    rcases h.d2 h9 h2 with e | e | e
    · exact .inl e
    · rw [e]
      cases (aV L u).ownBlock with
      | none => exact .inl rfl
      | some k => exact .inr (by simp)
    · exact .inr e
  · intro _
    rw [ea]
    exact ho
  · rw [l 7 (by decide) (by decide), l 8 (by decide) (by decide), h8]
    intro _ hh; cases hh
  · rw [l 14 (by decide) (by decide), lu 43 (by decide) (by decide)]
    intro h14 h15
    exact (h.c43 h14 (l15 h15)).past fun g hg' hlt => hg.block g hlt fun he => h.d4 h2 h14 (l15 h15) (by rw [hg', he])
  · rw [l 7 (by decide) (by decide), l 8 (by decide) (by decide), h8]
    intro _ _ hh; cases hh
  · rw [l 2 (by decide) (by decide), ea, eb]
    intro h9 _
    cases hb' : (aV L u).ownBlock with
    | none => exact .inl rfl
    | some k =>
      refine .inr (.inr ?_)
      have hk := own_low' (h.rA h9) hb'
      rcases h.d2 h9 h2 with e | e | e
      · rw [hb'] at e; cases e
      · rcases hb with hb | hb
        · rw [hb, e]; simp
        · rw [hb]; simp; omega
      · rw [← hb']
        exact (ne _ k hb' hk.2 (Ne.symm e)).symm
  · rw [l 2 (by decide) (by decide), l 14 (by decide) (by decide), lu 43 (by decide) (by decide), eb]
    exact fun h1 h14 h15 => h.d3 h1 h14 (l15 h15)
  · rw [l 14 (by decide) (by decide), lu 43 (by decide) (by decide), ea]
    intro _ h14 h15
    obtain ⟨g, e1, e2, _⟩ := (h.c43 h14 (l15 h15)).lt
    exact ne _ g e1 e2 (h.d4 h2 h14 (l15 h15))
  · rw [l 16 (by decide) (by decide), h16]
    intro hh; cases hh
  · rw [l 20 (by decide) (by decide), h6]
    exact h.res0
  · rw [l 20 (by decide) (by decide), h20]
    intro hh; cases hh
theorem XI.s16 (h : XI W g6 cap n xa xb x y L u w) : XI W g6 cap n xa xb x y (updL L 16) (updV u 45 (.agg #[.int .i64 cap, u 37, u 44])) w :=
  ⟨h.lt, h.size, h.bel, h.rA, h.rB, h.c36, h.c43, h.d1, h.d2, h.d3, h.d4, fun _ => rfl, h.res0, h.res1⟩
theorem XI.s20 (h : XI W g6 cap n xa xb x y L u w) (h20 : L 20 = false) (z : Value) : XI W g6 cap n xa xb x y (updL L 20) (updV u 1000020 z) (((w.setCell ⟨g6, 0, none⟩ (.int .i64 cap)).setCell ⟨g6, 1, none⟩ (u 37)).setCell ⟨g6, 2, none⟩ (u 44)) := by
  have ot := three_other w g6 (.int .i64 cap) (u 37) (u 44)
  have sz := three_size w g6 (.int .i64 cap) (u 37) (u 44)
  have past : ∀ {v : Value} {m : Nat} {xs : List Value}, w.ownsRow W.heap.size 23 1 v m xs → (((w.setCell ⟨g6, 0, none⟩ (.int .i64 cap)).setCell ⟨g6, 1, none⟩ (u 37)).setCell ⟨g6, 2, none⟩ (u 44)).ownsRow W.heap.size 23 1 v m xs := fun {v m xs} ho => by
    refine ⟨ho.1, ?_⟩
    rcases ho.2 with e | ⟨g, cp, cur, e1, e2, e3, e4⟩
    · exact .inl e
    · exact .inr ⟨g, cp, cur, e1, e2, (ot g (by have := h.lt; omega)).trans e3, e4⟩
  have bpast : ∀ {v z : Value}, Box1 W w v z → Box1 W (((w.setCell ⟨g6, 0, none⟩ (.int .i64 cap)).setCell ⟨g6, 1, none⟩ (u 37)).setCell ⟨g6, 2, none⟩ (u 44)) v z := fun hb => by
    obtain ⟨g, e1, e2, e3⟩ := hb.lt
    exact hb.past fun g' hg' _ => ot g' (by rw [e1] at hg'; cases hg'; have := h.lt; omega)
  exact ⟨h.lt, by rw [sz]; exact h.size, three_below h.bel (Nat.le_refl _) _ _ _, fun h2 => past (h.rA h2), fun h2 => past (h.rB h2), fun a b => bpast (h.c36 a b), fun a b => bpast (h.c43 a b), h.d1, h.d2, h.d3, h.d4, h.r45, (fun hh => by cases hh), fun _ => three_rowU _ _ _ _ _ _ _ _ _ (h.res0 h20)⟩
end
end Go.Proofs.Ytoffcpfebghdnaa
