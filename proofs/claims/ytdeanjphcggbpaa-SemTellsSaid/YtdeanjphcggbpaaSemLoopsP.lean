/- What a word that stays in its last state says (pure); literals (by gen17o.py). -/
import Derived.Test.YtdeanjphcggbpaaSemG
import Derived.Test.YtdeanjphcggbpaaTreesR0
namespace Go.Proofs.Ytdeanjphcggbpaa
open Go.RowKit
set_option linter.unusedVariables false
set_option linter.unusedSimpArgs false
def orB (b : Nat → Bool) : Nat → Bool
  | 0 => false
  | k + 1 => orB b k || b k
def andB (b : Nat → Bool) : Nat → Bool
  | 0 => true
  | k + 1 => andB b k && b k
def lastB (b : Nat → Bool) : Nat → Bool
  | 0 => false
  | k + 1 => b k
theorem orB_iff (b : Nat → Bool) : ∀ n, orB b n = true ↔ ∃ j, j < n ∧ b j = true
  | 0 => by simp [orB]
  | k + 1 => by
    unfold orB
    rw [Bool.or_eq_true, orB_iff b k]
    constructor
    · rintro (⟨j, h, h2⟩ | h)
      · exact ⟨j, by omega, h2⟩
      · exact ⟨k, by omega, h⟩
    · rintro ⟨j, h, h2⟩
      rcases (by omega : j < k ∨ j = k) with h3 | rfl
      · exact .inl ⟨j, h3, h2⟩
      · exact .inr h2
theorem andB_iff (b : Nat → Bool) : ∀ n, andB b n = true ↔ ∀ j, j < n → b j = true
  | 0 => by simp [andB]
  | k + 1 => by
    unfold andB
    rw [Bool.and_eq_true, andB_iff b k]
    constructor
    · rintro ⟨h, h2⟩ j hj
      rcases (by omega : j < k ∨ j = k) with h3 | rfl
      · exact h j h3
      · exact h2
    · intro h
      exact ⟨fun j hj => h j (by omega), h k (by omega)⟩
theorem lastB_eq (b : Nat → Bool) {n : Nat} (hn : 1 ≤ n) : lastB b n = b (n - 1) := by
  cases n with
  | zero => omega
  | succ k => rfl
theorem unt_stay {n : Nat} (b : Nat → Bool) {i : Nat} (hi : i < n) : untU n (n - 1) (fun _ => true) b i = true ↔ ∃ j, i ≤ j ∧ j < n ∧ b j = true := by
  constructor
  · intro h
    classical
    have := untU_least (n := n) (l := n - 1) (a := fun _ => true) (b := b) (R := fun i => decide (∃ j, i ≤ j ∧ j < n ∧ b j = true)) (by omega) (fun i hi => by
      show decide _ = (b i || (true && decide _))
      rw [Bool.true_and]
      refine Bool.eq_iff_iff.2 ?_
      rw [Bool.or_eq_true, decide_eq_true_eq, decide_eq_true_eq]
      constructor
      · rintro ⟨j, h1, h2, h3⟩
        rcases (by omega : i = j ∨ i + 1 ≤ j) with rfl | h4
        · exact .inl h3
        · refine .inr ⟨j, ?_, h2, h3⟩
          unfold nextW
          rw [if_pos (by omega)]
          exact h4
      · rintro (h3 | ⟨j, h1, h2, h3⟩)
        · exact ⟨i, Nat.le_refl _, hi, h3⟩
        · refine ⟨j, ?_, h2, h3⟩
          unfold nextW at h1
          split at h1 <;> omega) i hi h
    exact of_decide_eq_true this
  · rintro ⟨j, h1, h2, h3⟩
    obtain ⟨d, rfl⟩ : ∃ d, j = i + d := ⟨j - i, by omega⟩
    clear hi h1
    induction d generalizing i with
    | zero =>
      rw [untU_fix, show b i = true from h3]
      rfl
    | succ d ih =>
      rw [untU_fix]
      have : nextW n (n - 1) i = i + 1 := by
        unfold nextW
        rw [if_pos (by omega)]
      rw [this, ih (i := i + 1) (by omega) (by rw [Nat.add_right_comm, Nat.add_assoc]; exact h3)]
      simp
theorem rel_stay {n : Nat} (b : Nat → Bool) {i : Nat} (hi : i < n) : relU n (n - 1) (fun _ => false) b i = true ↔ ∀ j, i ≤ j → j < n → b j = true := by
  unfold relU
  have h := unt_stay (fun j => !b j) hi
  rw [show (fun _ : Nat => !false) = fun _ => true from rfl]
  constructor
  · intro h2 j h3 h4
    cases hb : b j with
    | true => rfl
    | false =>
      have := h.2 ⟨j, h3, h4, by simp [hb]⟩
      rw [this] at h2
      exact h2
  · intro h2
    cases hu : untU n (n - 1) (fun _ => true) (fun j => !b j) i with
    | false => rfl
    | true =>
      obtain ⟨j, h3, h4, h5⟩ := h.1 hu
      rw [h2 j h3 h4] at h5
      exact h5
structure StayAt (n : Nat) (row : Nat → List Int) (t : T) : Prop where
  f : hT n (n - 1) row (T.un 21 t) 0 = orB (hT n (n - 1) row t) n
  g : hT n (n - 1) row (T.un 22 t) 0 = andB (hT n (n - 1) row t) n
  gf : hT n (n - 1) row (T.un 22 (T.un 21 t)) 0 = lastB (hT n (n - 1) row t) n
  fg : hT n (n - 1) row (T.un 21 (T.un 22 t)) 0 = lastB (hT n (n - 1) row t) n
theorem hT_fin (n l : Nat) (row : Nat → List Int) (t : T) (i : Nat) : hT n l row (T.un 21 t) i = untU n l (fun _ => true) (hT n l row t) i := hT_21 _ _ _ _ _ _ _ _
theorem hT_glob (n l : Nat) (row : Nat → List Int) (t : T) (i : Nat) : hT n l row (T.un 22 t) i = relU n l (fun _ => false) (hT n l row t) i := hT_22 _ _ _ _ _ _ _ _
theorem stay_at {n : Nat} (hn : 1 ≤ n) (row : Nat → List Int) (t : T) : StayAt n row t := by
  refine ⟨Bool.eq_iff_iff.2 ?_, Bool.eq_iff_iff.2 ?_, Bool.eq_iff_iff.2 ?_, Bool.eq_iff_iff.2 ?_⟩
  · rw [hT_fin, unt_stay _ (by omega), orB_iff]
    exact ⟨fun ⟨j, _, h, h2⟩ => ⟨j, h, h2⟩, fun ⟨j, h, h2⟩ => ⟨j, Nat.zero_le _, h, h2⟩⟩
  · rw [hT_glob, rel_stay _ (by omega), andB_iff]
    exact ⟨fun h j hj => h j (Nat.zero_le _) hj, fun h j _ hj => h j hj⟩
  · rw [hT_glob, rel_stay _ (by omega), lastB_eq _ hn]
    constructor
    · intro h
      have := h (n - 1) (Nat.zero_le _) (by omega)
      rw [hT_fin, unt_stay _ (by omega)] at this
      obtain ⟨j, h1, h2, h3⟩ := this
      obtain rfl : j = n - 1 := by omega
      exact h3
    · intro h j _ hj
      rw [hT_fin, unt_stay _ hj]
      exact ⟨n - 1, by omega, by omega, h⟩
  · rw [hT_fin, unt_stay _ (by omega), lastB_eq _ hn]
    constructor
    · rintro ⟨j, _, h1, h2⟩
      rw [hT_glob, rel_stay _ h1] at h2
      exact h2 (n - 1) (by omega) (by omega)
    · intro h
      refine ⟨n - 1, Nat.zero_le _, by omega, ?_⟩
      rw [hT_glob, rel_stay _ (by omega)]
      intro j h1 h2
      obtain rfl : j = n - 1 := by omega
      exact h
theorem ty_two {op n pl : Int} {len : Nat} {sub : Nat → T} (hm : MayP (.node op n pl len sub)) (h : tyT (.node op n pl len sub) = 2) : 7 ≤ op ∧ op ≤ 19 := by
  have h2 : tyOf op len (cnt (fun i => tyT (sub i)) 0 len) (cnt (fun i => tyT (sub i)) 1 len) (cnt (fun i => tyT (sub i)) 2 len) (cnt (fun i => tyT (sub i)) 3 len) = 2 := h
  unfold tyOf at h2
  repeat' split at h2
  all_goals omega
theorem ev_lit (V : List Int) (t : T) (hm : MayP t) (h : tyT t = 2) : evT V t = 0 ∨ evT V t = 1 := by
  cases t with
  | nil => exact .inl rfl
  | node op n pl len sub =>
    obtain ⟨h7, h19⟩ := ty_two hm h
    unfold evT evOp b01
    repeat' split
    all_goals first
      | omega
      | exact .inl rfl
      | exact .inr rfl
theorem ev_node (V : List Int) (op n pl : Int) (len : Nat) (sub : Nat → T) : evT V (.node op n pl len sub) = evOp V op n (if 0 < len then evT V (sub 0) else 0) (if 1 < len then evT V (sub 1) else 0) := rfl
/-- A literal holds where it comes to 1. -/
theorem lit_hT (wn l : Nat) (row : Nat → List Int) : ∀ (t : T) (i : Nat), MayP t → tyT t = 2 → hT wn l row t i = decide (evT (row i) t = 1) := by
  intro t
  induction t with
  | nil => intro i _ h; cases h
  | node op n pl len sub ih =>
    intro i hm h
    obtain ⟨h7, h19⟩ := ty_two hm h
    by_cases h15 : op < 15
    · unfold hT
      rw [if_pos h15]
    · have hs := ty_lit h (by omega)
      obtain ⟨_, _, hlen, hsub⟩ := hm
      have e0 := ih 0 i
      have e1 := ih 1 i
      rcases (by omega : op = 15 ∨ op = 16 ∨ op = 17 ∨ op = 18 ∨ op = 19) with rfl | rfl | rfl | rfl | rfl
      · obtain rfl : len = 1 := hlen
        have v0 := ev_lit (row i) (sub 0) (hsub 0 (by decide)) (hs 0 (by decide))
        rw [hT_15, e0 (hsub 0 (by decide)) (hs 0 (by decide))]
        rw [ev_node, if_pos (by decide), ev15]
        rcases v0 with v0 | v0 <;> rw [v0] <;> decide
      all_goals
        obtain rfl : len = 2 := hlen
        have v0 := ev_lit (row i) (sub 0) (hsub 0 (by decide)) (hs 0 (by decide))
        have v1 := ev_lit (row i) (sub 1) (hsub 1 (by decide)) (hs 1 (by decide))
        have e0' := e0 (hsub 0 (by decide)) (hs 0 (by decide))
        have e1' := e1 (hsub 1 (by decide)) (hs 1 (by decide))
        rw [ev_node, if_pos (by decide), if_pos (by decide)]
        first
        | rw [hT_16, e0', e1', ev16]
        | rw [hT_17, e0', e1', ev17]
        | rw [hT_18, e0', e1', ev18]
        | rw [hT_19, e0', e1', ev19]
        rcases v0 with v0 | v0 <;> rcases v1 with v1 | v1 <;> rw [v0, v1] <;> decide
end Go.Proofs.Ytdeanjphcggbpaa
