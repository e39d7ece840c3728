/- The document's Insert (flat store): what is known of its rows, by what is done (by gen06w.py). -/
import Derived.Test.YtbbdeefnooaacaaFlatR
namespace Go.Proofs.Ytbbdeefnooaacaa
open Go.RowKit
set_option linter.unusedVariables false
set_option linter.unusedSimpArgs false
def chV (p q : Bool) (x y z : Value) : Value := bif p then x else bif q then y else z
def chN (p q : Bool) (n : Nat) : Nat := bif p then n + 1 else bif q then n else 0
def chX (p q : Bool) (xs ys : List Value) : List Value := bif p then xs ++ ys else bif q then xs else []
def kV (L : Nat → Bool) (u : Nat → Value) : Value := chV (L 10) (L 5) (u 29) (u 24) (u 21)
def fV (L : Nat → Bool) (u : Nat → Value) : Value := chV (L 17) (L 14) (u 36) (u 33) (u 30)
def bV (L : Nat → Bool) (u : Nat → Value) : Value := bif L 8 then u 27 else u 25
def BoxS (W w : World) (v : Value) (t : TypeId) (cs : Array Value) : Prop := ∃ g, v = .slice (some ⟨g, 0, none⟩) 1 1 ∧ W.heap.size ≤ g ∧ w.heap[g]? = some (.cells cs t (0, 0))
theorem BoxS.bel {W w w' : World} {v : Value} {t : TypeId} {cs : Array Value} (h : BoxS W w v t cs) (b : Below w.heap.size w w') : BoxS W w' v t cs := by
  obtain ⟨g, h1, h2, h3⟩ := h
  exact ⟨g, h1, h2, (b.block g (Array.getElem?_eq_some_iff.1 h3).1).trans h3⟩
theorem BoxS.lt {W w : World} {v : Value} {t : TypeId} {cs : Array Value} (h : BoxS W w v t cs) : ∃ g, v.ownBlock = some g ∧ g < w.heap.size ∧ W.heap.size ≤ g := by
  obtain ⟨g, rfl, h2, h3⟩ := h
  exact ⟨g, rfl, (Array.getElem?_eq_some_iff.1 h3).1, h2⟩
theorem BoxS.past {W w w' : World} {v : Value} {t : TypeId} {cs : Array Value} (h : BoxS W w v t cs) (b : ∀ g, v.ownBlock = some g → W.heap.size ≤ g → w.heap[g]? = some (.cells cs t (0, 0)) → w'.heap[g]? = some (.cells cs t (0, 0))) : BoxS W w' v t cs := by
  obtain ⟨g, rfl, h2, h3⟩ := h
  exact ⟨g, rfl, h2, b g rfl h2 h3⟩
theorem own_offS {w : World} {base n size : Nat} {e t : TypeId} {v : Value} {xs : List Value} {g : Nat} {vs : Array Value} (h : w.ownsRow base e size v n xs) (hg : w.heap[g]? = some (.cells vs t (0, 0))) (hne : e ≠ t) : some g ≠ v.ownBlock := by
  rcases h.2 with ⟨rfl, _⟩ | ⟨g', cap, cur, rfl, _, h3, _⟩
  · simp [Value.ownBlock]
  · intro he
    simp [Value.ownBlock] at he
    subst he
    rw [h3] at hg
    simp at hg
    exact hne hg.2
theorem keepS {w w' : World} {base n size : Nat} {e t : TypeId} {v : Value} {xs : List Value} (h : w.ownsRow base e size v n xs) (hg : w.grownBy w' v.ownBlock) (hne : e ≠ t) {g : Nat} {vs : Array Value} (hh : w.heap[g]? = some (.cells vs t (0, 0))) : w'.heap[g]? = some (.cells vs t (0, 0)) :=
  (hg.block g (Array.getElem?_eq_some_iff.1 hh).1 (own_offS h hh hne)).trans hh
structure XF (W : World) (g4 : Nat) (cap : Int) (n yl : Nat) (xk kv xf : List Value) (L : Nat → Bool) (u : Nat → Value) (w : World) : Prop where
  lt : g4 < W.heap.size
  size : W.heap.size ≤ w.heap.size
  bel : Below g4 W w
  rK : L 2 = true → w.ownsRow W.heap.size 29 1 (kV L u) (chN (L 10) (L 5) n) (chX (L 10) (L 5) xk [u 27])
  rB : L 6 = true → w.ownsRow W.heap.size 5 1 (bV L u) (bif L 8 then yl else 0) (bif L 8 then kv else [])
  c28 : L 9 = true → L 10 = false → BoxS W w (u 28) 29 #[u 27]
  rF : L 11 = true → w.ownsRow W.heap.size 62 2 (fV L u) (chN (L 17) (L 14) n) (chX (L 17) (L 14) xf [.bool false, .bool false])
  c35 : L 16 = true → L 17 = false → BoxS W w (u 35) 62 #[.bool false, .bool false]
  dF : L 11 = true → L 16 = true → L 17 = false → (fV L u).ownBlock ≠ (u 35).ownBlock
  r37 : L 18 = true → u 37 = .agg #[.int .i64 cap, u 29, u 36]
  res0 : L 19 = false → w.heap[g4]? = some (.cells #[.int .i64 0, .slice none 0 0, .slice none 0 0] 37 (0, 0))
  res1 : L 19 = true → w.heap[g4]? = some (.cells #[.int .i64 cap, u 29, u 36] 37 (0, 0))
section
variable {W w : World} {g4 : Nat} {cap : Int} {n yl : Nat} {xk kv xf : List Value} {L : Nat → Bool} {u : Nat → Value}
theorem XF.mem (h : XF W g4 cap n yl xk kv xf L u w) {w' : World} (b : Below w.heap.size w w') : XF W g4 cap n yl xk kv xf L u w' where
  lt := h.lt
  size := Nat.le_trans h.size b.size
  bel := h.bel.trans (b.mono (Nat.le_trans (Nat.le_of_lt h.lt) h.size))
  rK := fun h2 => ownS_bel (h.rK h2) b
  rB := fun h2 => ownS_bel (h.rB h2) b
  c28 := fun h1 h2 => (h.c28 h1 h2).bel b
  rF := fun h2 => ownS_bel (h.rF h2) b
  c35 := fun h1 h2 => (h.c35 h1 h2).bel b
  dF := h.dF
  r37 := h.r37
  res0 := fun h2 => (b.block g4 (Nat.lt_of_lt_of_le h.lt h.size)).trans (h.res0 h2)
  res1 := fun h2 => (b.block g4 (Nat.lt_of_lt_of_le h.lt h.size)).trans (h.res1 h2)
theorem XF.same (h : XF W g4 cap n yl xk kv xf L u w) {L' : Nat → Bool} {u' : Nat → Value} (e2 : L' 2 = L 2) (e5 : L' 5 = L 5) (e6 : L' 6 = L 6) (e8 : L' 8 = L 8) (e9 : L' 9 = L 9) (e10 : L' 10 = L 10) (e11 : L' 11 = L 11) (e14 : L' 14 = L 14) (e16 : L' 16 = L 16) (e17 : L' 17 = L 17) (e18 : L' 18 = L 18) (e19 : L' 19 = L 19)
    (f21 : u' 21 = u 21) (f24 : u' 24 = u 24) (f25 : u' 25 = u 25) (f27 : u' 27 = u 27) (f28 : u' 28 = u 28) (f29 : u' 29 = u 29) (f30 : u' 30 = u 30) (f33 : u' 33 = u 33) (f35 : u' 35 = u 35) (f36 : u' 36 = u 36) (f37 : u' 37 = u 37) : XF W g4 cap n yl xk kv xf L' u' w := by
  have ek : kV L' u' = kV L u := by unfold kV; rw [e10, e5, f29, f24, f21]
  have ef : fV L' u' = fV L u := by unfold fV; rw [e17, e14, f36, f33, f30]
  have eb : bV L' u' = bV L u := by unfold bV; rw [e8, f27, f25]
  constructor
  · exact h.lt
  · exact h.size
  · exact h.bel
  · rw [e2, ek, e10, e5, f27]; exact h.rK
  · rw [e6, eb, e8]; exact h.rB
  · rw [e9, e10, f28, f27]; exact h.c28
  · rw [e11, ef, e17, e14]; exact h.rF
  · rw [e16, e17, f35]; exact h.c35
  · rw [e11, e16, e17, ef, f35]; exact h.dF
  · rw [e18, f37, f29, f36]; exact h.r37
  · rw [e19]; exact h.res0
  · rw [e19, f29, f36]; exact h.res1
theorem XF.s2 (h : XF W g4 cap n yl xk kv xf L u w) (h5 : L 5 = false) (h10 : L 10 = false) : XF W g4 cap n yl xk kv xf (updL L 2) (updV u 21 (.slice (some ⟨w.heap.size, 0, none⟩) 0 0)) (w.alloc (.cells #[] 29)) := by
  have b : Below w.heap.size w (w.alloc (.cells #[] 29)) := (Below.refl _ _).alloc (Nat.le_refl _) _
  have h' := h.mem b
  refine ⟨h.lt, h'.size, h'.bel, fun _ => ?_, h'.rB, h'.c28, h'.rF, h'.c35, h'.dF, h'.r37, h'.res0, h'.res1⟩
  show World.ownsRow _ _ _ _ (chV (L 10) (L 5) _ _ _) (chN (L 10) (L 5) n) (chX (L 10) (L 5) xk _)
  rw [h10, h5]
  exact World.ownsRow_made w #[] 0 h.size (by unfold maxLen; omega) rfl
theorem XF.s6 (h : XF W g4 cap n yl xk kv xf L u w) (h8 : L 8 = false) : XF W g4 cap n yl xk kv xf (updL L 6) (updV u 25 (.slice (some ⟨w.heap.size, 0, none⟩) 0 0)) (w.alloc (.cells #[] 5)) := by
  have b : Below w.heap.size w (w.alloc (.cells #[] 5)) := (Below.refl _ _).alloc (Nat.le_refl _) _
  have h' := h.mem b
  refine ⟨h.lt, h'.size, h'.bel, h'.rK, fun _ => ?_, h'.c28, h'.rF, h'.c35, h'.dF, h'.r37, h'.res0, h'.res1⟩
  show World.ownsRow _ _ _ _ (bif L 8 then _ else _) (bif L 8 then yl else 0) (bif L 8 then kv else [])
  rw [h8]
  exact World.ownsRow_made w #[] 0 h.size (by unfold maxLen; omega) rfl
theorem XF.s11 (h : XF W g4 cap n yl xk kv xf L u w) (h14 : L 14 = false) (h17 : L 17 = false) : XF W g4 cap n yl xk kv xf (updL L 11) (updV u 30 (.slice (some ⟨w.heap.size, 0, none⟩) 0 0)) (w.alloc (.cells #[] 62)) := by
  have b : Below w.heap.size w (w.alloc (.cells #[] 62)) := (Below.refl _ _).alloc (Nat.le_refl _) _
  have h' := h.mem b
  have ef : fV (updL L 11) (updV u 30 (.slice (some ⟨w.heap.size, 0, none⟩) 0 0)) = .slice (some ⟨w.heap.size, 0, none⟩) 0 0 := by
    show chV (L 17) (L 14) _ _ _ = _
    rw [h17, h14]; rfl
  refine ⟨h.lt, h'.size, h'.bel, h'.rK, h'.rB, h'.c28, fun _ => ?_, h'.c35, fun _ h16 h17' => ?_, h'.r37, h'.res0, h'.res1⟩
  · rw [ef]
    show World.ownsRow _ _ _ _ _ (chN (L 17) (L 14) n) (chX (L 17) (L 14) xf _)
    rw [h17, h14]
    exact World.ownsRow_made w #[] 0 h.size (by unfold maxLen; omega) rfl
  · rw [ef]
    obtain ⟨g, e1, e2, _⟩ := (h.c35 h16 h17').lt
    show _ ≠ (u 35).ownBlock
    rw [e1]
    simp [Value.ownBlock]
    omega
theorem XF.s9 (h : XF W g4 cap n yl xk kv xf L u w) : XF W g4 cap n yl xk kv xf (updL L 9) (updV u 28 (.slice (some ⟨w.heap.size, 0, none⟩) 1 1)) (w.alloc (.cells #[u 27] 29)) := by
  have b : Below w.heap.size w (w.alloc (.cells #[u 27] 29)) := (Below.refl _ _).alloc (Nat.le_refl _) _
  have h' := h.mem b
  exact ⟨h.lt, h'.size, h'.bel, h'.rK, h'.rB, fun _ _ => ⟨w.heap.size, rfl, h.size, heap_alloc_new w _⟩, h'.rF, h'.c35, h'.dF, h'.r37, h'.res0, h'.res1⟩
theorem XF.s16 (h : XF W g4 cap n yl xk kv xf L u w) : XF W g4 cap n yl xk kv xf (updL L 16) (updV u 35 (.slice (some ⟨w.heap.size, 0, none⟩) 1 1)) (w.alloc (.cells #[.bool false, .bool false] 62)) := by
  have b : Below w.heap.size w (w.alloc (.cells #[.bool false, .bool false] 62)) := (Below.refl _ _).alloc (Nat.le_refl _) _
  have h' := h.mem b
  refine ⟨h.lt, h'.size, h'.bel, h'.rK, h'.rB, h'.c28, h'.rF, fun _ _ => ⟨w.heap.size, rfl, h.size, heap_alloc_new w _⟩, fun h11 _ _ => ?_, h'.r37, h'.res0, h'.res1⟩
  show (fV L u).ownBlock ≠ some w.heap.size
  intro he
  have := (h.rF h11).lt _ he
  omega
/-- The keys' row grows. -/
theorem XF.sK (h : XF W g4 cap n yl xk kv xf L u w) (h2 : L 2 = true) (h18 : L 18 = false) (h19 : L 19 = false) {i d : Nat} {v' : Value} {w' : World} (hid : (i = 5 ∧ d = 24 ∧ L 10 = false ∧ L 9 = false) ∨ (i = 10 ∧ d = 29))
    (ho : w'.ownsRow W.heap.size 29 1 v' (chN (updL L i 10) (updL L i 5) n) (chX (updL L i 10) (updL L i 5) xk [u 27])) (hg : w.grownBy w' (kV L u).ownBlock) : XF W g4 cap n yl xk kv xf (updL L i) (updV u d v') w' := by
  have hA := h.rK h2
  have ek : kV (updL L i) (updV u d v') = v' := by
    rcases hid with ⟨rfl, rfl, h8, _⟩ | ⟨rfl, rfl⟩
    · show chV (L 10) true _ v' _ = v'
      rw [h8]; rfl
    · rfl
  have l : ∀ k, k ≠ 5 → k ≠ 10 → updL L i k = L k := fun k h1 h2 => if_neg (by omega)
  have lu : ∀ k, k ≠ 24 → k ≠ 29 → updV u d v' k = u k := fun k h1 h2 => if_neg (by omega)
  have ef : fV (updL L i) (updV u d v') = fV L u := by rcases hid with ⟨rfl, rfl, _⟩ | ⟨rfl, rfl⟩ <;> rfl
  have eb : bV (updL L i) (updV u d v') = bV L u := by rcases hid with ⟨rfl, rfl, _⟩ | ⟨rfl, rfl⟩ <;> rfl
  have hlow : ∀ k, (kV L u).ownBlock = some k → W.heap.size ≤ k := fun k hk => (hA.lt k hk).1
  have hw4 : g4 < w.heap.size := Nat.lt_of_lt_of_le h.lt h.size
  have h4 : w'.heap[g4]? = w.heap[g4]? := hg.block g4 hw4 fun he => by
    have := hlow g4 he.symm
    have := h.lt
    omega
  constructor
  · exact h.lt
  · exact Nat.le_trans h.size hg.size
  · exact h.bel.grown hg (Nat.le_of_lt hw4) fun k hk => Nat.le_trans (Nat.le_of_lt h.lt) (hlow k hk)
  · intro _
    rw [ek, lu 27 (by decide) (by decide)]
    exact ho
  · rw [l 6 (by decide) (by decide), l 8 (by decide) (by decide), eb]
    exact fun h6 => ownS_past (h.rB h6) fun g vs _ _ hh => keepS hA hg (by decide) hh
  · rw [l 9 (by decide) (by decide)]
    rcases hid with ⟨rfl, rfl, _, h9⟩ | ⟨rfl, rfl⟩
    · rw [h9]; intro hh; cases hh
    · intro _ hh; cases hh
  · rw [l 11 (by decide) (by decide), l 17 (by decide) (by decide), l 14 (by decide) (by decide), ef]
    exact fun h6 => ownS_past (h.rF h6) fun g vs _ _ hh => keepS hA hg (by decide) hh
  · rw [l 16 (by decide) (by decide), l 17 (by decide) (by decide), lu 35 (by decide) (by decide)]
    exact fun a b => (h.c35 a b).past fun g _ _ hh => keepS hA hg (by decide) hh
  · rw [l 11 (by decide) (by decide), l 16 (by decide) (by decide), l 17 (by decide) (by decide), ef, lu 35 (by decide) (by decide)]
    exact h.dF
  · rw [l 18 (by decide) (by decide), h18]
    intro hh; cases hh
  · rw [l 19 (by decide) (by decide), h4]
    exact h.res0
  · rw [l 19 (by decide) (by decide), h19]
    intro hh; cases hh
/-- The copy of the key. -/
theorem XF.sB (h : XF W g4 cap n yl xk kv xf L u w) (h6 : L 6 = true) (h9 : L 9 = false) (h10 : L 10 = false) (h18 : L 18 = false) (h19 : L 19 = false) {v' : Value} {w' : World}
    (ho : w'.ownsRow W.heap.size 5 1 v' yl kv) (hg : w.grownBy w' (bV L u).ownBlock) : XF W g4 cap n yl xk kv xf (updL L 8) (updV u 27 v') w' := by
  have hA := h.rB h6
  have hlow : ∀ k, (bV L u).ownBlock = some k → W.heap.size ≤ k := fun k hk => (hA.lt k hk).1
  have hw4 : g4 < w.heap.size := Nat.lt_of_lt_of_le h.lt h.size
  have h4 : w'.heap[g4]? = w.heap[g4]? := hg.block g4 hw4 fun he => by
    have := hlow g4 he.symm
    have := h.lt
    omega
  refine ⟨h.lt, Nat.le_trans h.size hg.size, h.bel.grown hg (Nat.le_of_lt hw4) fun k hk => Nat.le_trans (Nat.le_of_lt h.lt) (hlow k hk), fun h2 => ?_, fun _ => ho, fun a => ?_, fun a => ?_, fun a b => ?_, h.dF, fun a => ?_, fun a => ?_, fun a => ?_⟩
  · have := ownS_past (h.rK h2) (fun g vs _ _ hh => keepS hA hg (by decide) hh)
    rw [h10] at this
    show World.ownsRow _ _ _ _ _ (chN (L 10) (L 5) n) (chX (L 10) (L 5) xk _)
    rw [h10]
    have e : kV (updL L 8) (updV u 27 v') = kV L u := rfl
    rw [e]
    exact this
  · have a' : L 9 = true := a
    rw [h9] at a'; cases a'
  · exact ownS_past (h.rF a) fun g vs _ _ hh => keepS hA hg (by decide) hh
  · exact (h.c35 a b).past fun g _ _ hh => keepS hA hg (by decide) hh
  · have a' : L 18 = true := a
    rw [h18] at a'; cases a'
  · exact h4.trans (h.res0 a)
  · have a' : L 19 = true := a
    rw [h19] at a'; cases a'
/-- The flags' row grows. -/
theorem XF.sF (h : XF W g4 cap n yl xk kv xf L u w) (h11 : L 11 = true) (h10 : L 10 = true) (h18 : L 18 = false) (h19 : L 19 = false) {i d : Nat} {v' : Value} {w' : World} (hid : (i = 14 ∧ d = 33 ∧ L 17 = false) ∨ (i = 17 ∧ d = 36))
    (ho : w'.ownsRow W.heap.size 62 2 v' (chN (updL L i 17) (updL L i 14) n) (chX (updL L i 17) (updL L i 14) xf [.bool false, .bool false])) (hg : w.grownBy w' (fV L u).ownBlock) (hb : v'.ownBlock = (fV L u).ownBlock ∨ v'.ownBlock = some w.heap.size) : XF W g4 cap n yl xk kv xf (updL L i) (updV u d v') w' := by
  have hA := h.rF h11
  have ef : fV (updL L i) (updV u d v') = v' := by
    rcases hid with ⟨rfl, rfl, h8⟩ | ⟨rfl, rfl⟩
    · show chV (L 17) true _ v' _ = v'
      rw [h8]; rfl
    · rfl
  have l : ∀ k, k ≠ 14 → k ≠ 17 → updL L i k = L k := fun k h1 h2 => if_neg (by omega)
  have lu : ∀ k, k ≠ 33 → k ≠ 36 → updV u d v' k = u k := fun k h1 h2 => if_neg (by omega)
  have ek : kV (updL L i) (updV u d v') = kV L u := by rcases hid with ⟨rfl, rfl, _⟩ | ⟨rfl, rfl⟩ <;> rfl
  have eb : bV (updL L i) (updV u d v') = bV L u := by rcases hid with ⟨rfl, rfl, _⟩ | ⟨rfl, rfl⟩ <;> rfl
  have l17 : updL L i 17 = false → i = 14 ∧ L 17 = false := by
    rcases hid with ⟨rfl, rfl, h8⟩ | ⟨rfl, rfl⟩
    · exact fun _ => ⟨rfl, h8⟩
    · intro h; cases h
  have hlow : ∀ k, (fV L u).ownBlock = some k → W.heap.size ≤ k := fun k hk => (hA.lt k hk).1
  have hw4 : g4 < w.heap.size := Nat.lt_of_lt_of_le h.lt h.size
  have h4 : w'.heap[g4]? = w.heap[g4]? := hg.block g4 hw4 fun he => by
    have := hlow g4 he.symm
    have := h.lt
    omega
  constructor
  · exact h.lt
  · exact Nat.le_trans h.size hg.size
  · exact h.bel.grown hg (Nat.le_of_lt hw4) fun k hk => Nat.le_trans (Nat.le_of_lt h.lt) (hlow k hk)
  · rw [l 2 (by decide) (by decide), l 10 (by decide) (by decide), l 5 (by decide) (by decide), ek, lu 27 (by decide) (by decide)]
    exact fun h6 => ownS_past (h.rK h6) fun g vs _ _ hh => keepS hA hg (by decide) hh
  · rw [l 6 (by decide) (by decide), l 8 (by decide) (by decide), eb]
    exact fun h6 => ownS_past (h.rB h6) fun g vs _ _ hh => keepS hA hg (by decide) hh
  · rw [l 10 (by decide) (by decide), h10]
    intro _ hh; cases hh
  · intro _
    rw [ef]
    exact ho
  · rw [l 16 (by decide) (by decide), lu 35 (by decide) (by decide)]
    intro h16 h17
    obtain ⟨_, e17⟩ := l17 h17
    exact (h.c35 h16 e17).past fun g hg' _ hh => (hg.block g (Array.getElem?_eq_some_iff.1 hh).1 fun he => h.dF h11 h16 e17 (by rw [hg', he])).trans hh
  · rw [l 16 (by decide) (by decide), lu 35 (by decide) (by decide), ef]
    intro _ h16 h17
    obtain ⟨_, e17⟩ := l17 h17
    obtain ⟨g, e1, e2, _⟩ := (h.c35 h16 e17).lt
    rcases hb with hb | hb
    · rw [hb]; exact h.dF h11 h16 e17
    · rw [hb, e1]; simp; omega
  · rw [l 18 (by decide) (by decide), h18]
    intro hh; cases hh
  · rw [l 19 (by decide) (by decide), h4]
    exact h.res0
  · rw [l 19 (by decide) (by decide), h19]
    intro hh; cases hh
theorem XF.s18 (h : XF W g4 cap n yl xk kv xf L u w) : XF W g4 cap n yl xk kv xf (updL L 18) (updV u 37 (.agg #[.int .i64 cap, u 29, u 36])) w :=
  ⟨h.lt, h.size, h.bel, h.rK, h.rB, h.c28, h.rF, h.c35, h.dF, fun _ => rfl, h.res0, h.res1⟩
theorem XF.s19 (h : XF W g4 cap n yl xk kv xf L u w) (h19 : L 19 = false) (z : Value) : XF W g4 cap n yl xk kv xf (updL L 19) (updV u 1000019 z) (((w.setCell ⟨g4, 0, none⟩ (.int .i64 cap)).setCell ⟨g4, 1, none⟩ (u 29)).setCell ⟨g4, 2, none⟩ (u 36)) := by
  have ot := three_other w g4 (.int .i64 cap) (u 29) (u 36)
  have sz := three_size w g4 (.int .i64 cap) (u 29) (u 36)
  have hl := h.lt
  have past : ∀ {e : TypeId} {s : Nat} {v : Value} {m : Nat} {xs : List Value}, w.ownsRow W.heap.size e s v m xs → (((w.setCell ⟨g4, 0, none⟩ (.int .i64 cap)).setCell ⟨g4, 1, none⟩ (u 29)).setCell ⟨g4, 2, none⟩ (u 36)).ownsRow W.heap.size e s v m xs := fun ho => ownS_past ho fun g vs hb _ hh => (ot g (by omega)).trans hh
  have bpast : ∀ {v : Value} {t : TypeId} {cs : Array Value}, BoxS W w v t cs → BoxS W (((w.setCell ⟨g4, 0, none⟩ (.int .i64 cap)).setCell ⟨g4, 1, none⟩ (u 29)).setCell ⟨g4, 2, none⟩ (u 36)) v t cs := fun hb => hb.past fun g _ hb2 hh => (ot g (by omega)).trans hh
  exact ⟨h.lt, by rw [sz]; exact h.size, three_below h.bel (Nat.le_refl _) _ _ _, fun h2 => past (h.rK h2), fun h2 => past (h.rB h2), fun a b => bpast (h.c28 a b), fun h2 => past (h.rF h2), fun a b => bpast (h.c35 a b), h.dF, h.r37, (fun hh => by cases hh), fun _ => three_rowU _ _ _ _ _ _ _ _ _ (h.res0 h19)⟩
end
end Go.Proofs.Ytbbdeefnooaacaa
