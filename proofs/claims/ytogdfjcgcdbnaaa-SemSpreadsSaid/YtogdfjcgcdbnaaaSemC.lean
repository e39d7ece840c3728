/- What formulas say of a word that goes round (pure); the functions that sem.All hands on (by gen17g.py). -/
import Derived.Test.YtogdfjcgcdbnaaaSemB
import Derived.Test.YtogdfjcgcdbnaaaTreesG
namespace Go.Proofs.Ytogdfjcgcdbnaaa
open Go.RowKit
set_option linter.unusedVariables false
set_option linter.unusedSimpArgs false
/-- Until, looked at for k places. -/
def untB (n l : Nat) (a b : Nat → Bool) : Nat → Nat → Bool
  | 0, i => b i
  | k + 1, i => b i || (a i && untB n l a b k (nextW n l i))
open Classical in
noncomputable def untU (n l : Nat) (a b : Nat → Bool) (i : Nat) : Bool := decide (∃ k, untB n l a b k i = true)
noncomputable def relU (n l : Nat) (a b : Nat → Bool) (i : Nat) : Bool := !untU n l (fun j => !a j) (fun j => !b j) i
theorem untU_fix (n l : Nat) (a b : Nat → Bool) (i : Nat) : untU n l a b i = (b i || (a i && untU n l a b (nextW n l i))) := by
  have h : untU n l a b i = true ↔ (b i || (a i && untU n l a b (nextW n l i))) = true := by
    unfold untU
    simp only [decide_eq_true_eq, Bool.or_eq_true, Bool.and_eq_true]
    constructor
    · rintro ⟨k, hk⟩
      cases k with
      | zero => exact .inl hk
      | succ k =>
        unfold untB at hk
        simp only [Bool.or_eq_true, Bool.and_eq_true] at hk
        exact hk.imp id fun h => ⟨h.1, k, h.2⟩
    · rintro (hb | ⟨ha, k, hk⟩)
      · exact ⟨0, hb⟩
      · refine ⟨k + 1, ?_⟩
        unfold untB
        simp [ha, hk]
  exact Bool.eq_iff_iff.2 h
theorem untU_least {n l : Nat} {a b R : Nat → Bool} (hl : l < n) (hR : ∀ i, i < n → R i = (b i || (a i && R (nextW n l i)))) : ∀ i, i < n → untU n l a b i = true → R i = true := by
  intro i hi h
  unfold untU at h
  simp only [decide_eq_true_eq] at h
  obtain ⟨k, hk⟩ := h
  induction k generalizing i with
  | zero =>
    rw [hR i hi, show b i = true from hk]
    rfl
  | succ k ih =>
    unfold untB at hk
    simp only [Bool.or_eq_true, Bool.and_eq_true] at hk
    rw [hR i hi]
    rcases hk with hb | ⟨ha, hk⟩
    · rw [hb]; rfl
    · rw [ha, ih _ (nextW_lt hl) hk]; simp
theorem relU_fix (n l : Nat) (a b : Nat → Bool) (i : Nat) : relU n l a b i = (b i && (a i || relU n l a b (nextW n l i))) := by
  unfold relU
  rw [untU_fix]
  cases a i <;> cases b i <;> simp
theorem relU_most {n l : Nat} {a b R : Nat → Bool} (hl : l < n) (hR : ∀ i, i < n → R i = (b i && (a i || R (nextW n l i)))) : ∀ i, i < n → relU n l a b i ≠ true → R i ≠ true := by
  intro i hi h
  have h2 : untU n l (fun j => !a j) (fun j => !b j) i = true := by
    unfold relU at h
    simpa using h
  have := untU_least (R := fun j => !R j) hl (fun j hj => by
    show (!R j) = _
    rw [hR j hj]
    cases a j <;> cases b j <;> simp) i hi h2
  simpa using this
/-- What a formula says of each place of a word. -/
noncomputable def hT (n l : Nat) (row : Nat → List Int) : T → Nat → Bool
  | .nil, _ => false
  | .node op m pl len sub, i =>
    if op < 15 then decide (evT (row i) (.node op m pl len sub) = 1)
    else if op = 15 then !hT n l row (sub 0) i
    else if op = 16 then hT n l row (sub 0) i && hT n l row (sub 1) i
    else if op = 17 then hT n l row (sub 0) i || hT n l row (sub 1) i
    else if op = 18 then !hT n l row (sub 0) i || hT n l row (sub 1) i
    else if op = 19 then hT n l row (sub 0) i == hT n l row (sub 1) i
    else if op = 20 then hT n l row (sub 0) (nextW n l i)
    else if op = 21 then untU n l (fun _ => true) (hT n l row (sub 0)) i
    else if op = 22 then relU n l (fun _ => false) (hT n l row (sub 0)) i
    else if op = 23 then untU n l (hT n l row (sub 0)) (hT n l row (sub 1)) i
    else relU n l (hT n l row (sub 0)) (hT n l row (sub 1)) i
/-- A word's states. -/
def WordAt (w : World) (wa : Option Addr) (wn : Nat) (row : Nat → List Int) : Prop :=
  wn = 0 ∨ ∃ b off, wa = some ⟨b, off, none⟩ ∧ b < w.heap.size ∧ ∀ i, i < wn → ∃ (ra : Option Addr) (rl rc : Nat), w.cell? ⟨b, off + i, none⟩ = some (.slice ra rl rc) ∧ IntsAt w ra rl (row i)
theorem WordAt.mono {w w' : World} {wa : Option Addr} {wn : Nat} {row : Nat → List Int} (h : WordAt w wa wn row) (hb : Below w.heap.size w w') : WordAt w' wa wn row := by
  rcases h with h0 | ⟨b, off, ha, hlt, hi⟩
  · exact .inl h0
  · refine .inr ⟨b, off, ha, Nat.lt_of_lt_of_le hlt hb.size, fun i hil => ?_⟩
    obtain ⟨ra, rl, rc, h1, h2⟩ := hi i hil
    exact ⟨ra, rl, rc, (hb.cell (p := ⟨b, _, none⟩) hlt).trans h1, h2.mono hb⟩
theorem cl_not (w : World) (gA ga gB gb wn : Nat) (a b : Nat → Bool) (i : Nat) (x : Bool) (hi : i < wn) (hwn : wn ≤ 1000000) (hcA : w.cell? ⟨gA, 0, none⟩ = some (.slice (some ⟨ga, 0, none⟩) wn wn)) (hrA : BoolsAt w ga wn a) (hcB : w.cell? ⟨gB, 0, none⟩ = some (.slice (some ⟨gb, 0, none⟩) wn wn)) (hrB : BoolsAt w gb wn b) :
    Calls Try.prog 33 (#[.int .i64 (i : Nat)] ++ #[.pointer (some ⟨gA, 0, none⟩)]) w fun e w' => e = .returned (.bool (!a i)) ∧ Below w.heap.size w w' := by
  have b0 := Below.refl w.heap.size w
  have hA := World.rowIs.cell hrA hi
  have hB := World.rowIs.cell hrB hi
  obtain ⟨p, hp⟩ : ∃ p, a i = p := ⟨_, rfl⟩
  obtain ⟨q, hq⟩ : ∃ q, b i = q := ⟨_, rfl⟩
  rw [hp] at hA ⊢
  rw [hq] at hB
  clear hp hq hrA hrB
  show Calls Try.prog 33 #[.int .i64 (i : Nat), .pointer (some ⟨gA, 0, none⟩)] w _
  cases p <;> cases q <;> cases x
  all_goals
    go_enter Try.func33, Try.ntmps33
    go_wp2_with fail
    go_ret
    exact ⟨rfl, b0⟩
theorem cl_and (w : World) (gA ga gB gb wn : Nat) (a b : Nat → Bool) (i : Nat) (x : Bool) (hi : i < wn) (hwn : wn ≤ 1000000) (hcA : w.cell? ⟨gA, 0, none⟩ = some (.slice (some ⟨ga, 0, none⟩) wn wn)) (hrA : BoolsAt w ga wn a) (hcB : w.cell? ⟨gB, 0, none⟩ = some (.slice (some ⟨gb, 0, none⟩) wn wn)) (hrB : BoolsAt w gb wn b) :
    Calls Try.prog 34 (#[.int .i64 (i : Nat)] ++ #[.pointer (some ⟨gA, 0, none⟩), .pointer (some ⟨gB, 0, none⟩)]) w fun e w' => e = .returned (.bool (a i && b i)) ∧ Below w.heap.size w w' := by
  have b0 := Below.refl w.heap.size w
  have hA := World.rowIs.cell hrA hi
  have hB := World.rowIs.cell hrB hi
  obtain ⟨p, hp⟩ : ∃ p, a i = p := ⟨_, rfl⟩
  obtain ⟨q, hq⟩ : ∃ q, b i = q := ⟨_, rfl⟩
  rw [hp] at hA ⊢
  rw [hq] at hB ⊢
  clear hp hq hrA hrB
  show Calls Try.prog 34 #[.int .i64 (i : Nat), .pointer (some ⟨gA, 0, none⟩), .pointer (some ⟨gB, 0, none⟩)] w _
  cases p <;> cases q <;> cases x
  all_goals
    go_enter Try.func34, Try.ntmps34
    go_wp2_with fail
    go_ret
    exact ⟨rfl, b0⟩
theorem cl_or (w : World) (gA ga gB gb wn : Nat) (a b : Nat → Bool) (i : Nat) (x : Bool) (hi : i < wn) (hwn : wn ≤ 1000000) (hcA : w.cell? ⟨gA, 0, none⟩ = some (.slice (some ⟨ga, 0, none⟩) wn wn)) (hrA : BoolsAt w ga wn a) (hcB : w.cell? ⟨gB, 0, none⟩ = some (.slice (some ⟨gb, 0, none⟩) wn wn)) (hrB : BoolsAt w gb wn b) :
    Calls Try.prog 35 (#[.int .i64 (i : Nat)] ++ #[.pointer (some ⟨gA, 0, none⟩), .pointer (some ⟨gB, 0, none⟩)]) w fun e w' => e = .returned (.bool (a i || b i)) ∧ Below w.heap.size w w' := by
  have b0 := Below.refl w.heap.size w
  have hA := World.rowIs.cell hrA hi
  have hB := World.rowIs.cell hrB hi
  obtain ⟨p, hp⟩ : ∃ p, a i = p := ⟨_, rfl⟩
  obtain ⟨q, hq⟩ : ∃ q, b i = q := ⟨_, rfl⟩
  rw [hp] at hA ⊢
  rw [hq] at hB ⊢
  clear hp hq hrA hrB
  show Calls Try.prog 35 #[.int .i64 (i : Nat), .pointer (some ⟨gA, 0, none⟩), .pointer (some ⟨gB, 0, none⟩)] w _
  cases p <;> cases q <;> cases x
  all_goals
    go_enter Try.func35, Try.ntmps35
    go_wp2_with fail
    go_ret
    exact ⟨rfl, b0⟩
theorem cl_imp (w : World) (gA ga gB gb wn : Nat) (a b : Nat → Bool) (i : Nat) (x : Bool) (hi : i < wn) (hwn : wn ≤ 1000000) (hcA : w.cell? ⟨gA, 0, none⟩ = some (.slice (some ⟨ga, 0, none⟩) wn wn)) (hrA : BoolsAt w ga wn a) (hcB : w.cell? ⟨gB, 0, none⟩ = some (.slice (some ⟨gb, 0, none⟩) wn wn)) (hrB : BoolsAt w gb wn b) :
    Calls Try.prog 36 (#[.int .i64 (i : Nat)] ++ #[.pointer (some ⟨gA, 0, none⟩), .pointer (some ⟨gB, 0, none⟩)]) w fun e w' => e = .returned (.bool (!a i || b i)) ∧ Below w.heap.size w w' := by
  have b0 := Below.refl w.heap.size w
  have hA := World.rowIs.cell hrA hi
  have hB := World.rowIs.cell hrB hi
  obtain ⟨p, hp⟩ : ∃ p, a i = p := ⟨_, rfl⟩
  obtain ⟨q, hq⟩ : ∃ q, b i = q := ⟨_, rfl⟩
  rw [hp] at hA ⊢
  rw [hq] at hB ⊢
  clear hp hq hrA hrB
  show Calls Try.prog 36 #[.int .i64 (i : Nat), .pointer (some ⟨gA, 0, none⟩), .pointer (some ⟨gB, 0, none⟩)] w _
  cases p <;> cases q <;> cases x
  all_goals
    go_enter Try.func36, Try.ntmps36
    go_wp2_with fail
    go_ret
    exact ⟨rfl, b0⟩
theorem cell_later {w : World} {p : Addr} {v : Value} (h : w.cell? p = some v) : ∀ z : Later w.heap.size w, z.w.cell? p = some v := fun z => (z.below.cell (World.block_lt_of_cell? w _ h)).trans h
theorem cl_iff (w : World) (gA ga gB gb wn : Nat) (a b : Nat → Bool) (i : Nat) (hi : i < wn) (hwn : wn ≤ 1000000) (hcA : w.cell? ⟨gA, 0, none⟩ = some (.slice (some ⟨ga, 0, none⟩) wn wn)) (hrA : BoolsAt w ga wn a) (hcB : w.cell? ⟨gB, 0, none⟩ = some (.slice (some ⟨gb, 0, none⟩) wn wn)) (hrB : BoolsAt w gb wn b) :
    Calls Try.prog 37 (#[.int .i64 (i : Nat)] ++ #[.pointer (some ⟨gA, 0, none⟩), .pointer (some ⟨gB, 0, none⟩)]) w fun e w' => e = .returned (.bool (a i == b i)) ∧ Below w.heap.size w w' := by
  have hA := cell_later (World.rowIs.cell hrA hi)
  have hB := cell_later (World.rowIs.cell hrB hi)
  have hCA := cell_later hcA
  have hCB := cell_later hcB
  obtain ⟨p, hp⟩ : ∃ p, a i = p := ⟨_, rfl⟩
  obtain ⟨q, hq⟩ : ∃ q, b i = q := ⟨_, rfl⟩
  rw [hp] at hA ⊢
  rw [hq] at hB ⊢
  clear hp hq hrA hrB
  show Calls Try.prog 37 #[.int .i64 (i : Nat), .pointer (some ⟨gA, 0, none⟩), .pointer (some ⟨gB, 0, none⟩)] w _
  cases p <;> cases q
  all_goals
    go_enter Try.func37, Try.ntmps37
    go_wp2_with fail
    refine wp_region_later w.heap.size w (by kernel_rfl) (by kernel_rfl) (Below.refl _ _) ?_
    repeat (go_big_quiet_step (fail))
    refine wpQuiet_nil ?_
    intro _ hlat
    obtain ⟨z, rfl⟩ := hlat
    go_wp2_with fail
    go_ret
    exact ⟨rfl, z.below⟩
theorem cl_next (w : World) (gA ga gW wn wc l : Nat) (wa : Option Addr) (a : Nat → Bool) (i : Nat) (hi : i < wn) (hwn : wn ≤ 1000000) (hl : l < wn) (hcA : w.cell? ⟨gA, 0, none⟩ = some (.slice (some ⟨ga, 0, none⟩) wn wn)) (hrA : BoolsAt w ga wn a) (hW : w.heap[gW]? = some (.cells #[.slice wa wn wc, .int .i64 (l : Nat)] 27 (0, 0))) :
    Calls Try.prog 38 (#[.int .i64 (i : Nat)] ++ #[.pointer (some ⟨gA, 0, none⟩), .pointer (some ⟨gW, 0, none⟩)]) w fun e w' => e = .returned (.bool (a (nextW wn l i))) ∧ Below w.heap.size w w' := by
  have hnl := nextW_lt (i := i) hl
  have hA := cell_later (World.rowIs.cell hrA hnl)
  have hCA := cell_later hcA
  have w0 := cell_later (cell_of_row _ _ 0 _ _ _ hW)
  have w1 := cell_later (cell_of_row _ _ 1 _ _ _ hW)
  have nX := fun z : Later w.heap.size w => next_any z.w wa wn wc l i hi hwn hl
  obtain ⟨N, hN⟩ : ∃ N, nextW wn l i = N := ⟨_, rfl⟩
  rw [hN] at hA hnl nX ⊢
  obtain ⟨p, hp⟩ : ∃ p, a N = p := ⟨_, rfl⟩
  rw [hp] at hA ⊢
  clear hp hN hrA
  show Calls Try.prog 38 #[.int .i64 (i : Nat), .pointer (some ⟨gA, 0, none⟩), .pointer (some ⟨gW, 0, none⟩)] w _
  go_enter Try.func38, Try.ntmps38
  go_wp2_with fail
  refine wp_region_later w.heap.size w (by kernel_rfl) (by kernel_rfl) (Below.refl _ _) ?_
  repeat (go_big_quiet_step (((go_at_call 39; refine Calls.later0 (nX _)))))
  refine wpQuiet_nil ?_
  intro _ hlat
  obtain ⟨z, rfl⟩ := hlat
  go_wp2_with fail
  go_ret
  exact ⟨rfl, z.below⟩
theorem cl_lit (w : World) (gE gW wn wc : Nat) (L : Int) (wa : Option Addr) (row : Nat → List Int) (op n pl : Int) (ea : Option Addr) (el ec : Nat) (t : T) (i : Nat) (hi : i < wn) (hwn : wn ≤ 1000000)
    (hE : w.heap[gE]? = some (.cells #[.int .i64 op, .int .i64 n, .int .i64 pl, .slice ea el ec] 24 (0, 0))) (hW : w.heap[gW]? = some (.cells #[.slice wa wn wc, .int .i64 L] 27 (0, 0)))
    (ht : TreeAt w t (.agg #[.int .i64 op, .int .i64 n, .int .i64 pl, .slice ea el ec])) (hr : WordAt w wa wn row) (hm : MayP t) (hty : tyT t = 1 ∨ (tyT t ≠ 0 ∧ t.opOf ≤ 14)) :
    Calls Try.prog 31 (#[.int .i64 (i : Nat)] ++ #[.pointer (some ⟨gE, 0, none⟩), .pointer (some ⟨gW, 0, none⟩)]) w fun e w' => e = .returned (.bool (decide (evT (row i) t = 1))) ∧ Below w.heap.size w w' := by
  obtain ⟨b, off, rfl, hlt, hri⟩ := hr.resolve_left (by omega)
  obtain ⟨ra, rl, rc, hc, hints⟩ := hri i hi
  have e0 := cell_later (cell_of_row _ _ 0 _ _ _ hE)
  have e1 := cell_later (cell_of_row _ _ 1 _ _ _ hE)
  have e2 := cell_later (cell_of_row _ _ 2 _ _ _ hE)
  have e3 := cell_later (cell_of_row _ _ 3 _ _ _ hE)
  have w0 := cell_later (cell_of_row _ _ 0 _ _ _ hW)
  have hcL := cell_later hc
  have nE := fun z : Later w.heap.size w => eval_any t z.w _ ra rl rc (row i) (ht.mono z.below) (hints.mono z.below) hm hty
  obtain ⟨X, hX⟩ : ∃ X, evT (row i) t = X := ⟨_, rfl⟩
  rw [hX] at nE ⊢
  clear hX hri hc ht hm hty hE hW
  show Calls Try.prog 31 #[.int .i64 (i : Nat), .pointer (some ⟨gE, 0, none⟩), .pointer (some ⟨gW, 0, none⟩)] w _
  go_enter Try.func31, Try.ntmps31
  go_wp2_with fail
  refine wp_region_later w.heap.size w (by kernel_rfl) (by kernel_rfl) (Below.refl _ _) ?_
  repeat (go_big_quiet_step (((go_at_call 32; refine Calls.later0 (nE _)))))
  refine wpQuiet_nil ?_
  intro _ hlat
  obtain ⟨z, rfl⟩ := hlat
  go_wp2_with fail
  go_ret
  exact ⟨rfl, z.below⟩
theorem cl_fin (w : World) (gA ga gB gb wn : Nat) (a b : Nat → Bool) (i : Nat) (x : Bool) (hi : i < wn) (hwn : wn ≤ 1000000) (hcA : w.cell? ⟨gA, 0, none⟩ = some (.slice (some ⟨ga, 0, none⟩) wn wn)) (hrA : BoolsAt w ga wn a) (hcB : w.cell? ⟨gB, 0, none⟩ = some (.slice (some ⟨gb, 0, none⟩) wn wn)) (hrB : BoolsAt w gb wn b) :
    Calls Try.prog 41 (#[.int .i64 (i : Nat), .bool x] ++ #[.pointer (some ⟨gA, 0, none⟩)]) w fun e w' => e = .returned (.bool (a i || x)) ∧ Below w.heap.size w w' := by
  have b0 := Below.refl w.heap.size w
  have hA := World.rowIs.cell hrA hi
  have hB := World.rowIs.cell hrB hi
  obtain ⟨p, hp⟩ : ∃ p, a i = p := ⟨_, rfl⟩
  obtain ⟨q, hq⟩ : ∃ q, b i = q := ⟨_, rfl⟩
  rw [hp] at hA ⊢
  rw [hq] at hB
  clear hp hq hrA hrB
  show Calls Try.prog 41 #[.int .i64 (i : Nat), .bool x, .pointer (some ⟨gA, 0, none⟩)] w _
  cases p <;> cases q <;> cases x
  all_goals
    go_enter Try.func41, Try.ntmps41
    go_wp2_with fail
    go_ret
    exact ⟨rfl, b0⟩
theorem cl_glob (w : World) (gA ga gB gb wn : Nat) (a b : Nat → Bool) (i : Nat) (x : Bool) (hi : i < wn) (hwn : wn ≤ 1000000) (hcA : w.cell? ⟨gA, 0, none⟩ = some (.slice (some ⟨ga, 0, none⟩) wn wn)) (hrA : BoolsAt w ga wn a) (hcB : w.cell? ⟨gB, 0, none⟩ = some (.slice (some ⟨gb, 0, none⟩) wn wn)) (hrB : BoolsAt w gb wn b) :
    Calls Try.prog 42 (#[.int .i64 (i : Nat), .bool x] ++ #[.pointer (some ⟨gA, 0, none⟩)]) w fun e w' => e = .returned (.bool (a i && x)) ∧ Below w.heap.size w w' := by
  have b0 := Below.refl w.heap.size w
  have hA := World.rowIs.cell hrA hi
  have hB := World.rowIs.cell hrB hi
  obtain ⟨p, hp⟩ : ∃ p, a i = p := ⟨_, rfl⟩
  obtain ⟨q, hq⟩ : ∃ q, b i = q := ⟨_, rfl⟩
  rw [hp] at hA ⊢
  rw [hq] at hB
  clear hp hq hrA hrB
  show Calls Try.prog 42 #[.int .i64 (i : Nat), .bool x, .pointer (some ⟨gA, 0, none⟩)] w _
  cases p <;> cases q <;> cases x
  all_goals
    go_enter Try.func42, Try.ntmps42
    go_wp2_with fail
    go_ret
    exact ⟨rfl, b0⟩
theorem cl_until (w : World) (gA ga gB gb wn : Nat) (a b : Nat → Bool) (i : Nat) (x : Bool) (hi : i < wn) (hwn : wn ≤ 1000000) (hcA : w.cell? ⟨gA, 0, none⟩ = some (.slice (some ⟨ga, 0, none⟩) wn wn)) (hrA : BoolsAt w ga wn a) (hcB : w.cell? ⟨gB, 0, none⟩ = some (.slice (some ⟨gb, 0, none⟩) wn wn)) (hrB : BoolsAt w gb wn b) :
    Calls Try.prog 43 (#[.int .i64 (i : Nat), .bool x] ++ #[.pointer (some ⟨gB, 0, none⟩), .pointer (some ⟨gA, 0, none⟩)]) w fun e w' => e = .returned (.bool (b i || (a i && x))) ∧ Below w.heap.size w w' := by
  have b0 := Below.refl w.heap.size w
  have hA := World.rowIs.cell hrA hi
  have hB := World.rowIs.cell hrB hi
  obtain ⟨p, hp⟩ : ∃ p, a i = p := ⟨_, rfl⟩
  obtain ⟨q, hq⟩ : ∃ q, b i = q := ⟨_, rfl⟩
  rw [hp] at hA ⊢
  rw [hq] at hB ⊢
  clear hp hq hrA hrB
  show Calls Try.prog 43 #[.int .i64 (i : Nat), .bool x, .pointer (some ⟨gB, 0, none⟩), .pointer (some ⟨gA, 0, none⟩)] w _
  cases p <;> cases q <;> cases x
  all_goals
    go_enter Try.func43, Try.ntmps43
    go_wp2_with fail
    go_ret
    exact ⟨rfl, b0⟩
theorem cl_rel (w : World) (gA ga gB gb wn : Nat) (a b : Nat → Bool) (i : Nat) (x : Bool) (hi : i < wn) (hwn : wn ≤ 1000000) (hcA : w.cell? ⟨gA, 0, none⟩ = some (.slice (some ⟨ga, 0, none⟩) wn wn)) (hrA : BoolsAt w ga wn a) (hcB : w.cell? ⟨gB, 0, none⟩ = some (.slice (some ⟨gb, 0, none⟩) wn wn)) (hrB : BoolsAt w gb wn b) :
    Calls Try.prog 44 (#[.int .i64 (i : Nat), .bool x] ++ #[.pointer (some ⟨gB, 0, none⟩), .pointer (some ⟨gA, 0, none⟩)]) w fun e w' => e = .returned (.bool (b i && (a i || x))) ∧ Below w.heap.size w w' := by
  have b0 := Below.refl w.heap.size w
  have hA := World.rowIs.cell hrA hi
  have hB := World.rowIs.cell hrB hi
  obtain ⟨p, hp⟩ : ∃ p, a i = p := ⟨_, rfl⟩
  obtain ⟨q, hq⟩ : ∃ q, b i = q := ⟨_, rfl⟩
  rw [hp] at hA ⊢
  rw [hq] at hB ⊢
  clear hp hq hrA hrB
  show Calls Try.prog 44 #[.int .i64 (i : Nat), .bool x, .pointer (some ⟨gB, 0, none⟩), .pointer (some ⟨gA, 0, none⟩)] w _
  cases p <;> cases q <;> cases x
  all_goals
    go_enter Try.func44, Try.ntmps44
    go_wp2_with fail
    go_ret
    exact ⟨rfl, b0⟩
end Go.Proofs.Ytogdfjcgcdbnaaa
