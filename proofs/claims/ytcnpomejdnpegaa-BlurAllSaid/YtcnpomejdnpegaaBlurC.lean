/- BlurNever, what it comes to; few. -/
import Derived.Test.YtcnpomejdnpegaaBlurB
import Derived.Test.YtcnpomejdnpegaaArgs3
namespace Go.Proofs.Ytcnpomejdnpegaa
open Go.RowKit
set_option linter.unusedVariables false

def FewOut (w : World) (len : Nat) (f : Nat → ActD) (most : Int) (e : Ending) (w' : World) : Prop := (∃ b : Bool, e = .returned (.bool b) ∧ (b = true → (len : Int) ≤ most ∧ ∀ i, i < len → (f i).kl ≤ 100)) ∧ w = w'
set_option maxRecDepth 100000 in
theorem few_any (w : World) (a : Option Addr) (len cap : Nat) (f : Nat → ActD) (most : Int) (h : ActsAt w a len f) :
    Calls Try.prog 8 #[.slice a len cap, .int .i64 most] w (FewOut w len f most) := by
  have hm := h.small
  by_cases hlen : most < (len : Int)
  · have d1 : decide (most < (len : Int)) = true := by simpa using hlen
    go_enter Try.func8, Try.ntmps8
    go_wp2_with fail
    go_ret
    exact ⟨⟨false, rfl, fun h => by cases h⟩, rfl⟩
  have d1 : decide (most < (len : Int)) = false := by simpa using hlen
  go_enter Try.func8, Try.ntmps8
  go_wp2_with fail
  go_loop [5] (fun i => ∃ j : Nat, j ≤ len ∧ i = .int .i64 (j : Nat) ∧ ∀ i, i < j → (f i).kl ≤ 100) (fun i => len - (intOf i).toNat)
  case atStart => exact ⟨0, Nat.zero_le _, rfl, fun i hi => by omega⟩
  case round =>
    obtain ⟨j, hj, rfl, hall⟩ := hrel
    by_cases hjl : j < len
    · have f1 : decide (j < len) = true := by simpa using hjl
      obtain ⟨b, off, rfl, hbs, hact⟩ := h.at_.resolve_left (by omega)
      have hx := hact j hjl
      obtain ⟨⟨kd, ka, kl, kc, key, fl⟩, hu⟩ : ∃ u, f j = u := ⟨_, rfl⟩
      rw [hu] at hx
      have x1 := hx.c1
      simp only [] at x1
      by_cases hk : 100 < kl
      · have f2 : decide ((100 : Int) < (kl : Int)) = true := by simp; omega
        clear hx hu hact
        go_wp2_with fail
        go_ret
        exact ⟨⟨false, rfl, fun h => by cases h⟩, rfl⟩
      · have f2 : decide ((100 : Int) < (kl : Int)) = false := by simp; omega
        have hu' : (f j).kl ≤ 100 := by rw [hu]; show kl ≤ 100; omega
        clear hx hu hact
        go_wp2_with fail
        refine ⟨⟨j + 1, by omega, by simp, fun i hi => ?_⟩, by simp [intOf]; omega⟩
        by_cases he : i = j
        · rw [he]; exact hu'
        · exact hall i (by omega)
    · have f1 : decide (j < len) = false := by simpa using hjl
      obtain rfl : j = len := by omega
      go_wp2_with fail
      go_ret
      exact ⟨⟨true, rfl, fun _ => ⟨by omega, hall⟩⟩, rfl⟩
/-- Behind some acts: what was inserted is there, and flags that were set. -/
def NevP (M K seed L : Nat) (f : Nat → ActD) (i : Nat) (l0 l1 l2 : List Nat) : Prop :=
  ∃ on0 on1 on2, RowOf l0 on0 ∧ RowOf l1 on1 ∧ RowOf l2 on2 ∧ on0.Nodup ∧ (∀ p ∈ on0, p < M) ∧ l0.length = L ∧ l1.length = L ∧ l2.length = L ∧
    ∀ j, j < i → ∀ p ∈ placesN (f j).key seed M K, p ∈ on0 ∧ ((f j).kd % 2 = 0 → p ∈ (if (f j).kd / 2 % 2 = 0 then on1 else on2))
theorem NevP.zero (M K seed L : Nat) (f : Nat → ActD) : NevP M K seed L f 0 (List.replicate L 0) (List.replicate L 0) (List.replicate L 0) :=
  ⟨[], [], [], RowOf.zero L, RowOf.zero L, RowOf.zero L, List.nodup_nil, (fun p hp => by simp at hp), List.length_replicate, List.length_replicate, List.length_replicate, fun j hj => absurd hj (by omega)⟩
/-- The rows behind one more act. -/
def rowsL (x : ActD) (ps l1 l2 : List Nat) : List Nat × List Nat := if x.kd % 2 = 0 then (if x.kd / 2 % 2 = 0 then (insV l1 ps, l2) else (l1, insV l2 ps)) else (l1, l2)
theorem NevP.step {M K seed L : Nat} {f : Nat → ActD} {i : Nat} {l0 l1 l2 : List Nat} (h : NevP M K seed L f i l0 l1 l2) (hM : 1 ≤ M) (hML : M ≤ 8 * L) :
    NevP M K seed L f (i + 1) (insV l0 (placesN (f i).key seed M K)) (rowsL (f i) (placesN (f i).key seed M K) l1 l2).1 (rowsL (f i) (placesN (f i).key seed M K) l1 l2).2 ∧
    onesV l0 ≤ onesV (insV l0 (placesN (f i).key seed M K)) ∧ onesV (insV l0 (placesN (f i).key seed M K)) ≤ onesV l0 + K ∧ onesV (insV l0 (placesN (f i).key seed M K)) ≤ M ∧
    (allV l0 (placesN (f i).key seed M K) = true → onesV (insV l0 (placesN (f i).key seed M K)) = onesV l0) ∧ (allV l0 (placesN (f i).key seed M K) = false → onesV l0 < onesV (insV l0 (placesN (f i).key seed M K))) ∧
    allV (insV l0 (placesN (f i).key seed M K)) (placesN (f i).key seed M K) = true := by
  obtain ⟨on0, on1, on2, r0, r1, r2, nd, hlt, e0, e1, e2, hall⟩ := h
  have hp := placesN_lt (f i).key seed M K hM
  have hk := placesN_length (f i).key seed M K
  generalize hps : placesN (f i).key seed M K = ps at *
  have q0 := r0.ins ps (fun p h => by have := hp p h; omega)
  have q1 := r1.ins ps (fun p h => by have := hp p h; omega)
  have q2 := r2.ins ps (fun p h => by have := hp p h; omega)
  have nd0 := withV_nodup ps on0 nd
  have hlt0 : ∀ p ∈ withV on0 ps, p < M := fun p h => by
    rcases (withV_mem _ _ _).1 h with h | h
    · exact hlt p h
    · exact hp p h
  refine ⟨?_, ?_, ?_, ?_, ?_, ?_, ?_⟩
  · refine ⟨withV on0 ps, if (f i).kd % 2 = 0 then (if (f i).kd / 2 % 2 = 0 then withV on1 ps else on1) else on1, if (f i).kd % 2 = 0 then (if (f i).kd / 2 % 2 = 0 then on2 else withV on2 ps) else on2, q0, ?_, ?_, nd0, hlt0, by rw [insV_length]; exact e0, ?_, ?_, ?_⟩
    · unfold rowsL; split <;> (try split) <;> first | exact q1 | exact r1
    · unfold rowsL; split <;> (try split) <;> first | exact q2 | exact r2
    · unfold rowsL; split <;> (try split) <;> simp [insV_length, e1]
    · unfold rowsL; split <;> (try split) <;> simp [insV_length, e2]
    · intro j hj p hpj
      by_cases hji : j = i
      · subst hji
        rw [hps] at hpj
        refine ⟨(withV_mem _ _ _).2 (.inr hpj), fun he => ?_⟩
        rw [if_pos he, if_pos he]
        by_cases hf : (f j).kd / 2 % 2 = 0
        · rw [if_pos hf, if_pos hf]; exact (withV_mem _ _ _).2 (.inr hpj)
        · rw [if_neg hf, if_neg hf]; exact (withV_mem _ _ _).2 (.inr hpj)
      · obtain ⟨h1, h2⟩ := hall j (by omega) p hpj
        refine ⟨(withV_mem _ _ _).2 (.inl h1), fun he => ?_⟩
        have h3 := h2 he
        by_cases hf : (f j).kd / 2 % 2 = 0
        · rw [if_pos hf] at h3 ⊢
          split
          · split
            · exact (withV_mem _ _ _).2 (.inl h3)
            · exact h3
          · exact h3
        · rw [if_neg hf] at h3 ⊢
          split
          · split
            · exact h3
            · exact (withV_mem _ _ _).2 (.inl h3)
          · exact h3
  · rw [r0.many, q0.many]; exact (withV_le _ _).2
  · rw [r0.many, q0.many]; have := (withV_le ps on0).1; omega
  · rw [q0.many]
    have := nd0.length_le_of_subset (l₂ := List.range M) fun p h => List.mem_range.2 (hlt0 p h)
    simpa using this
  · intro ha
    unfold insV
    rw [if_pos ha]
  · intro ha
    rw [r0.many, q0.many]
    refine withV_more ps on0 fun hh => ?_
    rw [r0.all] at ha
    have : ps.all (fun p => decide (p ∈ on0)) = true := List.all_eq_true.2 fun p hp => decide_eq_true (hh p hp)
    rw [this] at ha
    cases ha
  · rw [q0.all]
    exact List.all_eq_true.2 fun p hp => decide_eq_true ((withV_mem _ _ _).2 (.inr hp))
theorem NevP.there {M K seed L : Nat} {f : Nat → ActD} {i : Nat} {l0 l1 l2 : List Nat} (h : NevP M K seed L f i l0 l1 l2) (j : Nat) (hj : j < i) :
    allV l0 (placesN (f j).key seed M K) = true ∧ ((f j).kd % 2 = 0 → (f j).kd / 2 % 2 = 0 → allV l1 (placesN (f j).key seed M K) = true) ∧ ((f j).kd % 2 = 0 → (f j).kd / 2 % 2 ≠ 0 → allV l2 (placesN (f j).key seed M K) = true) := by
  obtain ⟨on0, on1, on2, r0, r1, r2, nd, hlt, e0, e1, e2, hall⟩ := h
  have hj := hall j hj
  refine ⟨?_, fun he hf => ?_, fun he hf => ?_⟩
  · rw [r0.all]; exact List.all_eq_true.2 fun p hp => decide_eq_true (hj p hp).1
  · rw [r1.all]; exact List.all_eq_true.2 fun p hp => decide_eq_true (by have := (hj p hp).2 he; rwa [if_pos hf] at this)
  · rw [r2.all]; exact List.all_eq_true.2 fun p hp => decide_eq_true (by have := (hj p hp).2 he; rwa [if_neg hf] at this)
end Go.Proofs.Ytcnpomejdnpegaa
