/- A scope with one label; a record's store and a load's cells at an operation. -/
import Derived.Test.YtbbdeefnooaacaaTabC
import Derived.ScopeJumps
namespace Go.Proofs.Ytbbdeefnooaacaa
open Go.RowKit
set_option linter.unusedVariables false
set_option linter.unusedSimpArgs false

/-- As Q; by a goto to label l: J l. -/
def jumps (J : Nat → Act → World → Prop) (Q : Exit → Act → World → Prop) : Exit → Act → World → Prop
  | .goto l, a, w => J l a w
  | e, a, w => Q e a w
theorem jumps_mono {J J' : Nat → Act → World → Prop} {Q : Exit → Act → World → Prop} (h : ∀ l a w, J l a w → J' l a w) : ∀ e a w, jumps J Q e a w → jumps J' Q e a w := by
  intro e a w hq
  cases e <;> first | exact h _ _ _ hq | exact hq
section
variable {P : Program} {a : Act} {w : World} {Q : Exit → Act → World → Prop}
/-- What a label's rest owes. -/
def Passes (P : Program) (r : Code) (J : Nat → Act → World → Prop) (μ : Nat → Act → World → Nat) (Q : Exit → Act → World → Prop) (l : Nat) : Prop :=
  ∀ a w, J l a w → r.wp P (jumps (fun l' a' w' => J l' a' w' ∧ μ l' a' w' < μ l a w) Q) a w
theorem wp_scope_labels {c : Code} (r : Nat → Code) (J : Nat → Act → World → Prop) (μ : Nat → Act → World → Nat) (hf : ∀ l a w, J l a w → findLabel c l = some (r l))
    (pass : ∀ l, Passes P (r l) J μ Q l) (first : c.wp P (jumps J Q) a w) : (Code.scope c).wp P Q a w := by
  intro b k cs
  have key : ∀ n l a w, μ l a w = n → J l a w → ∃ e a' w', Q e a' w' ∧ Arrives P (lone (b.at a (.code (r l) :: .inScope c :: k)) cs w) b k cs e a' w' := by
    intro n
    induction n using Nat.strongRecOn with
    | _ n ih =>
      intro l a w hn hJ
      obtain ⟨e, a₁, w₁, hq, harr⟩ := pass l a w hJ b (.inScope c :: k) cs
      cases e with
      | normal => exact ⟨.normal, a₁, w₁, hq, Steps.trans harr (.one step_inScope)⟩
      | exit id => exact ⟨.exit id, a₁, w₁, hq, fun k' hk => harr k' (by simp [exitTo, hk])⟩
      | goto l' =>
        obtain ⟨hJ', hlt⟩ := hq
        have hg : gotoIn l' (.inScope c :: k) = some (.code (r l') :: .inScope c :: k) := by simp [gotoIn, hf l' _ _ hJ']
        obtain ⟨e₂, a₂, w₂, hq₂, harr₂⟩ := ih _ (by omega) l' a₁ w₁ rfl hJ'
        exact ⟨e₂, a₂, w₂, hq₂, .of_steps (harr _ hg) harr₂⟩
      | ret => exact ⟨_, a₁, w₁, hq, harr⟩
      | panic ch => exact ⟨_, a₁, w₁, hq, harr⟩
      | outgrown => exact ⟨_, a₁, w₁, hq, harr⟩
  obtain ⟨e, a₁, w₁, hq, harr⟩ := first b (.inScope c :: k) cs
  cases e with
  | normal => exact ⟨.normal, a₁, w₁, hq, .head step_scope (Steps.trans harr (.one step_inScope))⟩
  | exit id => exact ⟨.exit id, a₁, w₁, hq, fun k' hk => .head step_scope (harr k' (by simp [exitTo, hk]))⟩
  | goto l' =>
    have hg : gotoIn l' (.inScope c :: k) = some (.code (r l') :: .inScope c :: k) := by simp [gotoIn, hf l' _ _ hq]
    obtain ⟨e₂, a₂, w₂, hq₂, harr₂⟩ := key _ l' a₁ w₁ rfl hq
    exact ⟨e₂, a₂, w₂, hq₂, .of_steps (.head step_scope (harr _ hg)) harr₂⟩
  | ret => exact ⟨_, a₁, w₁, hq, .of_steps (.one step_scope) harr⟩
  | panic ch => exact ⟨_, a₁, w₁, hq, .of_steps (.one step_scope) harr⟩
  | outgrown => exact ⟨_, a₁, w₁, hq, .of_steps (.one step_scope) harr⟩
theorem Passes.skipped {r : Code} {J : Nat → Act → World → Prop} {μ : Nat → Act → World → Nat} {l : Nat} (h : Passes P r J μ Q l) : Passes P (Code.skip.seq r) J μ Q l :=
  fun a w hJ => wp_seq (wp_skip (h a w hJ))
/-- One label. -/
theorem wp_scope_one {c r0 : Code} (J : Nat → Act → World → Prop) (μ : Nat → Act → World → Nat) (hJ : ∀ l a w, J l a w → l = 0)
    (h0 : findLabel c 0 = some (Code.skip.seq r0)) (p0 : Passes P r0 J μ Q 0) (first : Passes P r0 J μ Q 0 → c.wp P (jumps J Q) a w) : (Code.scope c).wp P Q a w := by
  refine wp_scope_labels (fun l => match l with | 0 => Code.skip.seq r0 | _ => Code.skip.seq r0) J μ ?_ ?_ (first p0)
  · intro l a w h
    cases hJ l a w h
    exact h0
  · intro l
    match l with
    | 0 => exact p0.skipped
    | n + 1 => intro a w h; exact absurd (hJ _ _ _ h) (by omega)
/-- Running into a label. -/
theorem Passes.at {r : Code} {J : Nat → Act → World → Prop} {μ : Nat → Act → World → Nat} {l : Nat} (h : Passes P r J μ Q l) {a : Act} {w : World} {m : Nat} (hJ : J l a w) (hm : μ l a w ≤ m) :
    r.wp P (jumps (fun l' a' w' => J l' a' w' ∧ μ l' a' w' < m) Q) a w :=
  wp_mono (h a w hJ) (jumps_mono fun _ _ _ h => ⟨h.1, Nat.lt_of_lt_of_le h.2 hm⟩)
theorem Passes.begins {r : Code} {J : Nat → Act → World → Prop} {μ : Nat → Act → World → Nat} {l : Nat} (h : Passes P r J μ Q l) {a : Act} {w : World} (hJ : J l a w) : r.wp P (jumps J Q) a w :=
  wp_mono (h a w hJ) (jumps_mono fun _ _ _ h => h.1)
end
theorem jumps_ret {J : Nat → Act → World → Prop} {Q : Exit → Act → World → Prop} {a : Act} {w : World} : jumps J Q .ret a w = Q .ret a w := rfl
theorem frame_list (xs : Array Value) : xs = ((List.range xs.size).map fun i => xs.getD i undef).toArray := by
  apply Array.ext
  · simp
  · intro i h1 h2
    simp [Array.getD, h1]
theorem store_rec {P : Program} {ops : Array Oper} {rest : List Oper} {o : Oper} {a : Act} {w : World} {Q : Exit → Act → World → Prop} (hgd : o.guard = none) (ty : TypeId) (x y : Operand) (ho : o.op = .store ty x y)
    (g : Nat) (row : Array Value) (hx : a.eval x = .pointer (some ⟨g, 0, none⟩)) (hy : a.eval y = .agg row)
    (t : TypeId) (old : Array Value) (hg : w.heap[g]? = some (.cells old t (0, 0))) (hi : (P.info? ty).map (·.size) = some row.size)
    (hold : old.size = row.size) (h1 : row.all (·.oneCell') = true)
    (h : ∀ w1, w1.heap[g]? = some (.cells row t (0, 0)) → w1.heap.size = w.heap.size → (∀ b, b ≠ g → w1.heap[b]? = w.heap[b]?) → Below g w w1 → wpList P ops Q rest (a.put o.dst undef) w1) : wpList P ops Q (o :: rest) a w :=
  wpList_store_row hgd ty x y ho g row hx hy t old hg hi hold h1 (h _ (setRow_heap w g old row t (0, 0) hg) (by simp [World.setRow]) (fun b hb => setRow_other w g b _ hb) (below_setRow (Below.refl _ _) (Nat.le_refl _) _))
theorem below_then {w a b : World} (h : Below w.heap.size w a) (h' : Below a.heap.size a b) : Below w.heap.size w b := h.trans (h'.mono h.size)
/-- A new record of an op 'alloc', its cells named. -/
theorem wpList_alloc_row {P : Program} {ops : Array Oper} {rest : List Oper} {o : Oper} {a : Act} {w : World} {Q : Exit → Act → World → Prop} (hgd : o.guard = none) (ty : TypeId) (ho : o.op = .alloc ty) (cs : Array Value)
    (hrun : (Instr.alloc ty true (.tuple #[])).run P w = .ok (.pointer (some ⟨w.heap.size, 0, none⟩)) (w.alloc (.cells cs ty)))
    (h : wpList P ops Q rest (a.put o.dst (.pointer (some ⟨w.heap.size, 0, none⟩))) (w.alloc (.cells cs ty))) : wpList P ops Q (o :: rest) a w := by
  refine wpList_plain hgd fun K' hK' => ?_
  unfold Oper.wp
  simp [execOp, ho, hrun, Result.andThen]
  exact hK' _ _ h
/-- A record that is built, its cells named. -/
theorem wpList_build_row {P : Program} {ops : Array Oper} {rest : List Oper} {o : Oper} {a : Act} {w : World} {Q : Exit → Act → World → Prop} (hgd : o.guard = none) (t : TypeId) (parts : Array (Nat × Operand)) (ho : o.op = .build t parts) (cells : Array Value)
    (hb : P.built t (parts.map fun (i, x) => (i, a.eval x)).toList = some cells) (h : wpList P ops Q rest (a.put o.dst (.agg cells)) w) : wpList P ops Q (o :: rest) a w := by
  refine wpList_build hgd t parts ho (by rw [hb]; rfl) ?_
  rw [hb]
  exact h
theorem trail_zero (w : World) : (Instr.alloc 74 true (.tuple #[])).run Try.prog w = .ok (.pointer (some ⟨w.heap.size, 0, none⟩)) (w.alloc (.cells (trailRow 0 false 0 0 (List.replicate 65 0)) 74)) := by kernel_rfl
theorem trail_built (h : Nat) : Try.prog.built 74 [(1, .int .u64 (h : Nat))] = some (trailRow 0 false h 0 (List.replicate 65 0)) := by kernel_rfl
theorem trail_size (at_ : Int) (here : Bool) (h many : Nat) (told : List Int) (hl : told.length = 65) : (Try.prog.info? 74).map (·.size) = some (trailRow at_ here h many told).size := by
  have e : (trailRow at_ here h many told).size = 69 := by simp [trailRow, hl]
  have z : (Try.prog.info? 74).map (·.size) = some 69 := by kernel_rfl
  rw [z, e]
theorem trail_one (at_ : Int) (here : Bool) (h many : Nat) (told : List Int) : (trailRow at_ here h many told).all (·.oneCell') = true := by
  simp [trailRow, Value.oneCell']
theorem heap2a (w : World) (a b : Obj) : ((w.alloc a).alloc b).heap[w.heap.size]? = some a := by
  have h := heap_alloc_new w a
  have := ((Below.refl (w.alloc a).heap.size (w.alloc a)).alloc (Nat.le_refl _) b).block w.heap.size (by simp)
  exact this.trans h
theorem heap2b (w : World) (a b : Obj) : ((w.alloc a).alloc b).heap[w.heap.size + 1]? = some b := by
  have := heap_alloc_new (w.alloc a) b
  rwa [World.size_alloc] at this
end Go.Proofs.Ytbbdeefnooaacaa
