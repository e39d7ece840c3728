/- Contracts of scrutinyref01.Same, Right. -/
import Derived.Test.YticbbldlhbooeaaBitsRef1
namespace Go.Proofs.Yticbbldlhbooeaa
open Go.RowKit
set_option linter.unusedVariables false

theorem refsame_any (w : World) (a b : Option Addr) (n c n' c' : Nat) (N N' : Int) (l m : List Nat) (hl : BytesAt w a n c l) (hm : BytesAt w b n' c' m) :
    Calls Try.prog 15 #[.agg #[.slice a n c, .int .i64 N], .agg #[.slice b n' c', .int .i64 N']] w fun e w' => e = .returned (.bool (decide (N = N' ∧ l = m))) ∧ Below w.heap.size w w' := by
  have bb : ∀ o o' : Obj, Below w.heap.size w ((w.alloc o).alloc o') := fun o o' => ((Below.refl _ _).alloc (Nat.le_refl _) _).alloc (by simp) _
  have c1 := fun o o' => (hl.mono (bb o o')).conv 22 5 9 Try.underlying22 Try.underlying5 Try.underlying9
  have c2 := fun o o' => (hm.mono (bb o o')).conv 22 5 9 Try.underlying22 Try.underlying5 Try.underlying9
  by_cases h : N = N'
  · have hb : (N == N') = true := by simpa using h
    have e1 : decide (N = N' ∧ l = m) = decide (l = m) := by simp [h]
    rw [e1]
    clear e1 h
    go_enter Try.func15, Try.ntmps15
    go_wp2
    go_ret
    exact ⟨by simp only [Lib.strOfNums_toList, bytesOf_eq l m hl.byte hm.byte]; rfl, bb _ _⟩
  · have hb : (N == N') = false := by simpa using h
    have e1 : decide (N = N' ∧ l = m) = false := by simp [h]
    rw [e1]
    clear e1 h
    go_enter Try.func15, Try.ntmps15
    go_wp2
    go_ret
    exact ⟨rfl, bb _ _⟩
theorem refright_len (w : World) (a : Option Addr) (len cap : Nat) (N : Int) (hN : -9223372036854775808 ≤ N) (hN' : N ≤ 9223372036854775807) (hlen : len ≤ 1099511627776) (h : ¬ (0 ≤ N ∧ (len : Int) = N / 8 + min (N % 8) 1)) :
    Calls Try.prog 12 #[.agg #[.slice a len cap, .int .i64 N]] w fun e w' => e = .returned (.bool false) ∧ Below w.heap.size w w' := by
  have bb : ∀ o : Obj, Below w.heap.size w (w.alloc o) := fun o => (Below.refl _ _).alloc (Nat.le_refl _) _
  by_cases h0 : N < 0
  · have d1 : decide (N < 0) = true := by simpa using h0
    clear h
    go_enter Try.func12, Try.ntmps12
    go_wp2
    go_ret
    exact ⟨rfl, bb _⟩
  have d1 : decide (N < 0) = false := by simpa using h0
  have hn : 0 ≤ N := by omega
  have h1 : ¬ (len : Int) = N / 8 + min (N % 8) 1 := by omega
  clear h
  by_cases h2 : N / 8 + 1 < (len : Int)
  · have d2 : decide (N / 8 + 1 < (len : Int)) = true := by simpa using h2
    clear h1
    go_enter Try.func12, Try.ntmps12
    go_wp2
    go_ret
    exact ⟨rfl, bb _⟩
  have d2 : decide (N / 8 + 1 < (len : Int)) = false := by simpa using h2
  by_cases h3 : 8 * (len : Int) < N
  · have d3 : decide (8 * (len : Int) < N) = true := by simpa using h3
    clear h1
    go_enter Try.func12, Try.ntmps12
    go_wp2
    go_ret
    exact ⟨rfl, bb _⟩
  have d3 : decide (8 * (len : Int) < N) = false := by simpa using h3
  have h4 : N + 8 ≤ 8 * (len : Int) := by omega
  have d4 : decide (N + 8 ≤ 8 * (len : Int)) = true := by simpa using h4
  clear h1
  go_enter Try.func12, Try.ntmps12
  go_wp2
  go_ret
  exact ⟨rfl, bb _⟩
theorem bits_zero_from (l : List Nat) (N : Nat) (j : Nat) (h : ∀ i, N ≤ i → i < j → bitAt l i = 0) (h0 : bitAt l j = 0) : ∀ i, N ≤ i → i < j + 1 → bitAt l i = 0 := by
  intro i h1 h2
  by_cases e : i = j
  · subst e; exact h0
  · exact h i h1 (by omega)
set_option maxHeartbeats 2000000 in
theorem refright_loop (w : World) (a : Option Addr) (len cap : Nat) (l : List Nat) (N : Nat) (hlen : len ≤ 1099511627776) (hby : BytesAt w a len cap l) (h : len = (N + 7) / 8) :
    Calls Try.prog 12 #[.agg #[.slice a len cap, .int .i64 (N : Int)]] w fun e w' => e = .returned (.bool (decide (RightS l N))) ∧ Below w.heap.size w w' := by
  have bb : ∀ o : Obj, Below w.heap.size w (w.alloc o) := fun o => (Below.refl _ _).alloc (Nat.le_refl _) _
  have hll := hby.len_eq
  have hbx : BitsBox (w.alloc (.cells #[.slice a len cap, .int .i64 (N : Int)] 24)) w.heap.size a len cap (N : Int) := World.alloc_heap_new _ _
  have d1 : decide ((N : Int) < 0) = false := by simp
  have d2 : decide ((N : Int) / 8 + 1 < (len : Int)) = false := by simp; omega
  have d3 : decide (8 * (len : Int) < (N : Int)) = false := by simp; omega
  have d4 : decide ((N : Int) + 8 ≤ 8 * (len : Int)) = false := by simp; omega
  obtain ⟨D, hD⟩ : ∃ D, D = decide (RightS l N) := ⟨_, rfl⟩
  rw [← hD]
  have hD0 : (∃ i, N ≤ i ∧ i < 8 * len ∧ bitAt l i = 1) → D = false := by
    rintro ⟨i, h1, h2, h3⟩
    rw [hD, decide_eq_false_iff_not]
    intro hr
    have := hr.2 i h1 (by omega)
    omega
  have hD1 : (∀ i, N ≤ i → i < 8 * len → bitAt l i = 0) → D = true := by
    intro h1
    rw [hD, decide_eq_true_iff]
    exact ⟨by omega, fun i h2 h3 => h1 i h2 (by omega)⟩
  have hb2 : ∀ i, bitAt l i < 2 := fun i => by unfold bitAt; omega
  clear hD
  have hge : N ≤ 8 * len := by omega
  clear h
  go_enter Try.func12, Try.ntmps12
  go_wp2
  go_loopw [3] (fun k wr => ∃ j : Nat, N ≤ j ∧ j ≤ 8 * len ∧ k = .int .i64 (j : Int) ∧ Hid (∀ i, N ≤ i → i < j → bitAt l i = 0) ∧ Below w.heap.size w wr ∧ BitsBox wr w.heap.size a len cap (N : Int)) (fun k _ => 8 * len - (intOf k).toNat)
  case atStart => exact ⟨N, Nat.le_refl _, hge, rfl, fun i h1 h2 => by omega, bb _, hbx⟩
  case round =>
    obtain ⟨j, hj1, hj2, rfl, hz, hbel, hbx'⟩ := hrel
    have g0 := hbx'.cell0
    have g1 := hbx'.cell1
    have g2 : wr.heap[w.heap.size]? = some (.cells #[.slice a len cap, .int .i64 (N : Int)] 24 (0, 0)) := hbx'
    by_cases hlt : j < 8 * len
    · have hy := hby.mono hbel
      go_wp2_with fail
      refine (refbit_any _ _ _ _ _ _ j hlt hlen hy).mono ?_
      rintro e w2 ⟨rfl, b2⟩
      have hb := hb2 j
      have hcases : bitAt l j = 0 ∨ bitAt l j = 1 := by omega
      rcases hcases with h0 | h0
      · rw [h0]
        go_wp2
        go_roundw
        case rel => exact ⟨j + 1, by omega, by omega, by go_num, bits_zero_from l N j hz.out h0, hbel.trans (b2.mono hbel.size), hbx'.below b2⟩
        case measure => simp [intOf]; omega
      · rw [h0]
        go_wp2
        go_ret
        rw [hD0 ⟨j, hj1, hlt, h0⟩]
        exact ⟨rfl, hbel.trans (b2.mono hbel.size)⟩
    · go_wp2
      go_ret
      obtain rfl : j = 8 * len := by omega
      rw [hD1 hz.out]
      exact ⟨rfl, hbel⟩
theorem refright_any (w : World) (a : Option Addr) (len cap : Nat) (l : List Nat) (N : Int) (hN : -9223372036854775808 ≤ N) (hN' : N ≤ 9223372036854775807) (hlen : len ≤ 1099511627776) (hby : BytesAt w a len cap l) :
    Calls Try.prog 12 #[.agg #[.slice a len cap, .int .i64 N]] w fun e w' => e = .returned (.bool (decide (RightI l N))) ∧ Below w.heap.size w w' := by
  have hll := hby.len_eq
  by_cases h : 0 ≤ N ∧ (len : Int) = N / 8 + min (N % 8) 1
  · obtain ⟨n, rfl⟩ := Int.eq_ofNat_of_zero_le h.1
    have e : decide (RightI l (n : Int)) = decide (RightS l n) := decide_eq_decide.2 ⟨fun h => by have h2 := h.2; rwa [Int.toNat_natCast] at h2, fun h' => ⟨h.1, by rw [Int.toNat_natCast]; exact h'⟩⟩
    rw [e]
    exact refright_loop w a len cap l n hlen hby (by omega)
  · have e : decide (RightI l N) = false := by
      rw [decide_eq_false_iff_not]
      rintro ⟨h1, h2⟩
      obtain ⟨n, rfl⟩ := Int.eq_ofNat_of_zero_le h1
      rw [Int.toNat_natCast] at h2
      have := rightS_len l n h2
      exact h ⟨h1, by omega⟩
    rw [e]
    exact refright_len w a len cap N hN hN' hlen h
end Go.Proofs.Yticbbldlhbooeaa
