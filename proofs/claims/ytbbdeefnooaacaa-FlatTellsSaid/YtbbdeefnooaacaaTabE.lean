/- The table's small functions; Find, Many, Key, New. -/
import Derived.Test.YtbbdeefnooaacaaTabD
namespace Go.Proofs.Ytbbdeefnooaacaa
open Go.RowKit
set_option linter.unusedVariables false
set_option linter.unusedSimpArgs false

theorem found_any (w : World) (a : Int) (b : Bool) : Calls Try.prog 28 #[.agg #[.int .i64 a, .bool b]] w fun e w' => e = .returned (.bool b) ∧ Below w.heap.size w w' := by
  have bA : ∀ o : Obj, Below w.heap.size w (w.alloc o) := fun o => (Below.refl _ _).alloc (Nat.le_refl _) _
  go_enter Try.func28, Try.ntmps28
  go_wp2_with fail
  go_ret
  exact ⟨rfl, bA _⟩
theorem place_any (w : World) (a : Int) (b : Bool) : Calls Try.prog 29 #[.agg #[.int .i64 a, .bool b]] w fun e w' => e = .returned (.int .i64 a) ∧ Below w.heap.size w w' := by
  have bA : ∀ o : Obj, Below w.heap.size w (w.alloc o) := fun o => (Below.refl _ _).alloc (Nat.le_refl _) _
  go_enter Try.func29, Try.ntmps29
  go_wp2_with fail
  go_ret
  exact ⟨rfl, bA _⟩
theorem size_any (w : World) (g : Nat) (at_ : Int) (here : Bool) (h many : Nat) (told : List Int) (hT : TrailAt w g at_ here h many told) (hm : many ≤ 65) :
    Calls Try.prog 31 #[.pointer (some ⟨g, 0, none⟩)] w fun e w' => e = .returned (.int .i64 ((many + 3 : Nat) : Int)) ∧ w = w' := by
  have c3 : w.cell? ⟨g, 3, none⟩ = some (.int .i64 (many : Nat)) := cell_of_row _ _ 3 _ _ _ hT
  go_enter Try.func31, Try.ntmps31
  go_wp2_with fail
  go_ret
  exact ⟨by simp, rfl⟩
theorem many_any (w : World) (cap : Int) (ka : Option Addr) (n kc : Nat) (s : Value) (hn : n ≤ 1048576) : Calls Try.prog 18 #[.agg #[.int .i64 cap, .slice ka n kc, s]] w fun e w' => e = .returned (.int .i64 (n : Nat)) ∧ Below w.heap.size w w' := by
  have bA : ∀ o : Obj, Below w.heap.size w (w.alloc o) := fun o => (Below.refl _ _).alloc (Nat.le_refl _) _
  go_enter Try.func18, Try.ntmps18
  go_wp2_with fail
  go_ret
  exact ⟨rfl, bA _⟩
set_option maxRecDepth 100000 in
set_option maxHeartbeats 2000000 in
theorem find_any (w : World) (cap : Int) (ka : Option Addr) (n kc : Nat) (sa : Option Addr) (sl sc : Nat) (ks : List (List Nat)) (s : List Int) (rs : List (Nat × Nat)) (h : TabR w ka n sa sl ks s rs) (ya : Option Addr) (yl yc : Nat) (key : List Nat) (hk : BytesAt w ya yl yc key) :
    Calls Try.prog 26 #[.agg #[.int .i64 cap, .slice ka n kc, .slice sa sl sc], .slice ya yl yc] w fun e w' => (∃ (at_ : Nat) (here : Bool), e = .returned (.tuple #[.int .i64 (at_ : Nat), .bool here]) ∧ (here = true → at_ < ks.length ∧ ks.getD at_ [] = key) ∧ (here = false → at_ = 0 ∧ ∀ i, i < ks.length → ks.getD i [] ≠ key)) ∧ Below w.heap.size w w' := by
  have bA : ∀ o : Obj, Below w.heap.size w (w.alloc o) := fun o => (Below.refl _ _).alloc (Nat.le_refl _) _
  go_enter Try.func26, Try.ntmps26
  go_wp2_with fail
  refine (seek_any _ cap ka n kc sa sl sc ks s rs (h.mono (bA _)) ya yl yc key (hk.mono (bA _))).mono ?_
  rintro e w1 ⟨⟨at_, here, many, told, rfl, hl, _, ht, hf⟩, b1⟩
  have bel := below_then (bA _) b1
  have gn := heap_alloc_new w1 (.cells (trailRow 0 false 0 0 (List.replicate 65 0)) 74)
  have A1 := (Below.refl w1.heap.size w1).alloc (Nat.le_refl _) (.cells (trailRow 0 false 0 0 (List.replicate 65 0)) 74)
  have l65 : (List.replicate 65 (0 : Int)).length = 65 := List.length_replicate
  go_wp2_with (first | (refine wpList_alloc_row rfl 74 rfl _ (trail_zero _) ?_) | (refine store_rec rfl 74 (.tmp 6) (.tmp 9) rfl w1.heap.size (trailRow (at_ : Nat) here (hashS key 0) many told) rfl rfl 74 _ gn (trail_size _ _ _ _ _ hl) (by simp [trailRow, hl]) (trail_one _ _ _ _ _) ?_; intro w6 g6 z6 o6 b6))
  replace bel := (below_then bel A1).trans (b6.mono (by have := bel.size; omega))
  have g6' : TrailAt w6 w1.heap.size (at_ : Nat) here (hashS key 0) many told := g6
  have q0 : ∀ x : Later w6.heap.size w6, x.w.cell? ⟨w1.heap.size, 0, none⟩ = some (.int .i64 (at_ : Nat)) := fun x => cell_of_row _ _ 0 _ _ _ (g6'.mono x.below)
  have q1 : ∀ x : Later w6.heap.size w6, x.w.cell? ⟨w1.heap.size, 1, none⟩ = some (.bool here) := fun x => cell_of_row _ _ 1 _ _ _ (g6'.mono x.below)
  clear gn A1 z6 o6 b6 g6
  simp only [Act.put, List.setIfInBounds_toArray, List.set_cons_zero, List.set_cons_succ]
  refine wp_region_later w6.heap.size w6 (by kernel_rfl) (by kernel_rfl) (Below.refl _ _) ?_
  repeat (go_big_quiet_step ((first | (go_at_call 28; refine Calls.later0 (found_any _ _ _)) | (go_at_call 29; refine Calls.later0 (place_any _ _ _)))))
  refine wpQuiet_nil ?_
  intro _ hlat
  obtain ⟨x, rfl⟩ := hlat
  go_wp2_with fail
  go_ret2
  exact ⟨⟨at_, here, rfl, ht, fun he => ⟨(hf he).1, (hf he).2.1⟩⟩, below_then bel x.below⟩
theorem new_any (w : World) (most : Int) :
    Calls Try.prog 17 #[.int .i64 most] w fun e w' => e = .returned (if 0 ≤ most ∧ most ≤ 1048576 then .tuple #[.agg #[.int .i64 most, .slice none 0 0, .slice none 0 0], .int .i64 0] else .tuple #[.agg #[.int .i64 0, .slice none 0 0, .slice none 0 0], .int .i64 1]) ∧ Below w.heap.size w w' := by
  have bA : ∀ o : Obj, Below w.heap.size w (w.alloc o) := fun o => (Below.refl _ _).alloc (Nat.le_refl _) _
  by_cases h0 : most < 0
  · have d1 : decide (most < 0) = true := by simpa using h0
    rw [if_neg (by omega)]
    go_enter Try.func17, Try.ntmps17
    go_wp2_with fail
    exact bodyPost_ret (v := .tuple #[.agg #[.int .i64 0, .slice none 0 0, .slice none 0 0], .int .i64 1]) (by simp [results, Try.results17, go_sem]) rfl ⟨rfl, bA _⟩
  · have d1 : decide (most < 0) = false := by simpa using h0
    by_cases h1 : 1048576 < most
    · have d2 : decide (1048576 < most) = true := by simpa using h1
      rw [if_neg (by omega)]
      go_enter Try.func17, Try.ntmps17
      go_wp2_with fail
      exact bodyPost_ret (v := .tuple #[.agg #[.int .i64 0, .slice none 0 0, .slice none 0 0], .int .i64 1]) (by simp [results, Try.results17, go_sem]) rfl ⟨rfl, bA _⟩
    · have d2 : decide (1048576 < most) = false := by simpa using h1
      rw [if_pos (by omega)]
      go_enter Try.func17, Try.ntmps17
      go_wp2_with fail
      exact bodyPost_ret (v := .tuple #[.agg #[.int .i64 most, .slice none 0 0, .slice none 0 0], .int .i64 0]) (by simp [results, Try.results17, go_sem]) rfl ⟨rfl, bA _⟩
end Go.Proofs.Ytbbdeefnooaacaa
