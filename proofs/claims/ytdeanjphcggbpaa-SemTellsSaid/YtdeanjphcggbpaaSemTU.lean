/- The document's until: as many steps as there are states are enough (by gen17s.py). -/
import Derived.Test.YtdeanjphcggbpaaSemH
import Derived.Test.YtdeanjphcggbpaaSemLoopsP
import Derived.Test.YtdeanjphcggbpaaTreesR
namespace Go.Proofs.Ytdeanjphcggbpaa
open Go.RowKit
set_option linter.unusedVariables false
set_option linter.unusedSimpArgs false
/-- What is seen of a word behind m steps from i on, at c; all that was passed was kept, and nothing was met. -/
def SeenU (n l : Nat) (a b : Nat → Bool) (i m c : Nat) : Prop :=
  c < n ∧ i < n ∧ untU n l a b i = untU n l a b c ∧
  ((c = i + m ∧ ∀ j, i ≤ j → j < c → (a j = true ∧ b j = false)) ∨
   (l ≤ c ∧ m + i + l = n + c ∧ (∀ j, i ≤ j → j < n → (a j = true ∧ b j = false)) ∧ ∀ j, l ≤ j → j < c → (a j = true ∧ b j = false)) ∨
   ∀ j, i ≤ j ∨ l ≤ j → j < n → (a j = true ∧ b j = false))
theorem seen_start {n l : Nat} {a b : Nat → Bool} {i : Nat} (hi : i < n) : SeenU n l a b i 0 i := ⟨hi, hi, rfl, .inl ⟨rfl, fun j h1 h2 => by omega⟩⟩
theorem seen_next {n l : Nat} {a b : Nat → Bool} {i m c : Nat} (h : SeenU n l a b i m c) (hl : l < n) (ha : a c = true) (hb : b c = false) : SeenU n l a b i (m + 1) (nextW n l c) := by
  obtain ⟨h1, h2, h3, h4⟩ := h
  refine ⟨nextW_lt hl, h2, ?_, ?_⟩
  · rw [h3, untU_fix, ha, hb]
    simp
  · unfold nextW
    split
    · rename_i hc
      rcases h4 with ⟨h5, h6⟩ | ⟨h5, h6, h7, h8⟩ | h5
      · refine .inl ⟨by omega, fun j h7 h8 => ?_⟩
        rcases (by omega : j < c ∨ j = c) with h9 | rfl
        · exact h6 j h7 h9
        · exact ⟨ha, hb⟩
      · refine .inr (.inl ⟨by omega, by omega, h7, fun j h9 h10 => ?_⟩)
        rcases (by omega : j < c ∨ j = c) with h11 | rfl
        · exact h8 j h9 h11
        · exact ⟨ha, hb⟩
      · exact .inr (.inr h5)
    · rename_i hc
      rcases h4 with ⟨h5, h6⟩ | ⟨h5, h6, h7, h8⟩ | h5
      · refine .inr (.inl ⟨Nat.le_refl _, by omega, fun j h7 h8 => ?_, fun j h7 h8 => by omega⟩)
        rcases (by omega : j < c ∨ j = c) with h9 | rfl
        · exact h6 j h7 h9
        · exact ⟨ha, hb⟩
      · refine .inr (.inr fun j h9 h10 => ?_)
        rcases h9 with h9 | h9
        · exact h7 j h9 h10
        · rcases (by omega : j < c ∨ j = c) with h11 | rfl
          · exact h8 j h9 h11
          · exact ⟨ha, hb⟩
      · exact .inr (.inr h5)
theorem seen_end {n l : Nat} {a b : Nat → Bool} {i c : Nat} (h : SeenU n l a b i (n + 1) c) (hl : l < n) : untU n l a b i = false := by
  obtain ⟨h1, h2, h3, h4⟩ := h
  have all : ∀ j, i ≤ j ∨ l ≤ j → j < n → (a j = true ∧ b j = false) := by
    rcases h4 with ⟨h5, h6⟩ | ⟨h5, h6, h7, h8⟩ | h5
    · omega
    · intro j h9 h10
      by_cases h11 : i ≤ j
      · exact h7 j h11 h10
      · exact h8 j (by omega) (by omega)
    · exact h5
  have key : ∀ k j, i ≤ j ∨ l ≤ j → j < n → untB n l a b k j = false := by
    intro k
    induction k with
    | zero => exact fun j h9 h10 => (all j h9 h10).2
    | succ k ih =>
      intro j h9 h10
      unfold untB
      have hn : i ≤ nextW n l j ∨ l ≤ nextW n l j := by
        unfold nextW
        split <;> omega
      rw [(all j h9 h10).2, ih _ hn (nextW_lt hl)]
      simp
  classical
  unfold untU
  refine decide_eq_false ?_
  rintro ⟨k, hk⟩
  rw [key k i (.inl (Nat.le_refl _)) h2] at hk
  cases hk
theorem seen_yes {n l : Nat} {a b : Nat → Bool} {i m c : Nat} (h : SeenU n l a b i m c) (hb : b c = true) : untU n l a b i = true := by
  rw [h.2.2.1, untU_fix, hb]
  rfl
theorem seen_no {n l : Nat} {a b : Nat → Bool} {i m c : Nat} (h : SeenU n l a b i m c) (hb : b c = false) (ha : a c = false) : untU n l a b i = false := by
  rw [h.2.2.1, untU_fix, hb, ha]
  rfl
theorem until_any (w : World) (wa : Option Addr) (wn wk l i ga gb : Nat) (a b : Nat → Bool) (hi : i < wn) (hwn : wn ≤ 1000000) (hl : l < wn) (hra : BoolsAt w ga wn a) (hrb : BoolsAt w gb wn b) :
    Calls Try.prog 37 #[.agg #[.slice wa wn wk, .int .i64 (l : Nat)], .int .i64 (i : Nat), .slice (some ⟨ga, 0, none⟩) wn wn, .slice (some ⟨gb, 0, none⟩) wn wn] w fun e w' => e = .returned (.bool (untU wn l a b i)) ∧ Below w.heap.size w w' := by
  have A := (Below.refl w.heap.size w).alloc (Nat.le_refl _) (.cells #[.slice wa wn wk, .int .i64 (l : Nat)] 27)
  have pw : (w.alloc (.cells #[.slice wa wn wk, .int .i64 (l : Nat)] 27)).heap[w.heap.size]? = some (.cells #[.slice wa wn wk, .int .i64 (l : Nat)] 27 (0, 0)) := heap_alloc_new _ _
  go_enter Try.func37, Try.ntmps37
  go_upto_region 1 with fail
  obtain ⟨v1, hv⟩ : ∃ v, w.alloc (.cells #[.slice wa wn wk, .int .i64 (l : Nat)] 27) = v := ⟨_, rfl⟩
  obtain ⟨gt, hg⟩ : ∃ g, w.heap.size = g := ⟨_, rfl⟩
  rw [hv] at pw A ⊢
  rw [hg] at pw ⊢
  have bt := A
  replace hra := hra.mono A
  replace hrb := hrb.mono A
  clear hv hg A
  have S0 := Lib.hid (seen_start (l := l) (a := a) (b := b) hi)
  have HC0 := Lib.hid (cell_of_row _ _ 0 _ _ _ pw : v1.cell? ⟨gt, 0, none⟩ = some (.slice wa wn wk))
  have HC1 := Lib.hid (cell_of_row _ _ 1 _ _ _ pw : v1.cell? ⟨gt, 1, none⟩ = some (.int .i64 (l : Nat)))
  have RA := Lib.hid hra
  have RB := Lib.hid hrb
  have BT := Lib.hid bt
  have b0 := Below.refl v1.heap.size v1
  clear hra hrb pw bt
  go_wp2_with fail
  go_loopw [1, 9] (fun c m w' => ∃ C M : Nat, M ≤ wn + 1 ∧ c = .int .i64 (C : Nat) ∧ m = .int .i64 (M : Nat) ∧ Hid (SeenU wn l a b i M C) ∧ Below v1.heap.size v1 w') (fun _ m _ => wn + 1 - (intOf m).toNat)
  case atStart => exact ⟨i, 0, Nat.zero_le _, rfl, rfl, S0, b0⟩
  case round =>
    clear S0 b0
    obtain ⟨C, M, hM, rfl, rfl, S, hb⟩ := hrel
    have hC := S.out.1
    have d0 := cell_next hb HC0.out
    have d1 := cell_next hb HC1.out
    by_cases hMn : M ≤ wn
    · have f1 : decide (M ≤ wn) = true := by simpa using hMn
      have k1 := World.rowIs.cell (RA.out.mono hb) hC
      have k2 := World.rowIs.cell (RB.out.mono hb) hC
      have Y := Lib.hid (fun h => seen_yes S.out h)
      have N := Lib.hid (fun h h2 => seen_no S.out h h2)
      have X := Lib.hid (fun h h2 => seen_next S.out hl h2 h)
      obtain ⟨x, hx⟩ : ∃ x, a C = x := ⟨_, rfl⟩
      obtain ⟨y, hy⟩ : ∃ x, b C = x := ⟨_, rfl⟩
      rw [hx] at k1 N X
      rw [hy] at k2 Y N X
      clear hx hy S
      cases y with
      | true =>
        go_wp2_with fail
        go_ret
        exact ⟨by rw [Y.out (by simp)]; rfl, below_then BT.out hb⟩
      | false =>
        cases x with
        | false =>
          go_wp2_with fail
          go_ret
          exact ⟨by rw [N.out (by simp) (by simp)]; rfl, below_then BT.out hb⟩
        | true =>
          go_wp2_with fail
          refine (refNext_any wr wa wn wk l C hC (by omega)).mono ?_
          rintro e w2 ⟨rfl, b2⟩
          go_wp2_with fail
          exact ⟨⟨_, M + 1, by omega, rfl, by simp, Lib.hid (X.out (by simp) (by simp)), below_then hb b2⟩, by simp [intOf]; omega⟩
    · have f1 : decide (M ≤ wn) = false := by simpa using hMn
      obtain rfl : M = wn + 1 := by omega
      have E := Lib.hid (seen_end S.out hl)
      clear S
      go_wp2_with fail
      go_ret
      exact ⟨by rw [E.out]; rfl, below_then BT.out hb⟩
end Go.Proofs.Ytdeanjphcggbpaa
