/- A row of bits: bits that are 1, and that are set; how many there are. -/
import Derived.Test.YtcnpomejdnpegaaMixTells
import Derived.Test.YtcnpomejdnpegaaShelf
namespace Go.Proofs.Ytcnpomejdnpegaa
open Go.RowKit
set_option linter.unusedVariables false

def bitV (l : List Nat) (p : Nat) : Bool := (l.getD (p / 8) 0).testBit (p % 8)
def orV (l : List Nat) (p : Nat) : List Nat := l.set (p / 8) (l.getD (p / 8) 0 ||| 2 ^ (p % 8))
def setV (l : List Nat) (ps : List Nat) : List Nat := ps.foldl orV l
def allV (l : List Nat) (ps : List Nat) : Bool := ps.all (bitV l)
def onesV (l : List Nat) : Nat := (l.map Lib.onesCount).sum
theorem orV_length (l : List Nat) (p : Nat) : (orV l p).length = l.length := by simp [orV]
theorem setV_length : ∀ (ps l : List Nat), (setV l ps).length = l.length := by
  intro ps
  induction ps with
  | nil => intro l; rfl
  | cons p r ih => intro l; show (setV (orV l p) r).length = _; rw [ih, orV_length]
theorem or_lt {x k : Nat} (hx : x < 256) (hk : k < 8) : x ||| 2 ^ k < 256 := by
  have : 2 ^ k < 2 ^ 8 := Nat.pow_lt_pow_right (by omega) hk
  exact Nat.or_lt_two_pow (n := 8) hx this
theorem getD_lt {l : List Nat} (h : ∀ x ∈ l, x < 256) (i : Nat) : l.getD i 0 < 256 := by
  rw [List.getD_eq_getElem?_getD]
  cases hi : l[i]? with
  | none => simp
  | some x => simpa using h x (List.mem_of_getElem? hi)
theorem orV_byte {l : List Nat} (h : ∀ x ∈ l, x < 256) (p : Nat) : ∀ x ∈ orV l p, x < 256 := by
  intro x hx
  unfold orV at hx
  rcases List.mem_or_eq_of_mem_set hx with hx | rfl
  · exact h x hx
  · exact or_lt (getD_lt h _) (by omega)
theorem setV_byte : ∀ (ps l : List Nat), (∀ x ∈ l, x < 256) → ∀ x ∈ setV l ps, x < 256 := by
  intro ps
  induction ps with
  | nil => intro l h; exact h
  | cons p r ih => intro l h; exact ih _ (orV_byte h p)
theorem div_mod8 {p q : Nat} : (q / 8 = p / 8 ∧ q % 8 = p % 8) ↔ q = p := by omega
theorem bitV_or (l : List Nat) (p q : Nat) (hp : p < 8 * l.length) : bitV (orV l p) q = (bitV l q || decide (q = p)) := by
  unfold bitV orV
  have hp8 : p / 8 < l.length := by omega
  by_cases hd : q / 8 = p / 8
  · rw [hd]
    have e : (l.set (p / 8) (l.getD (p / 8) 0 ||| 2 ^ (p % 8))).getD (p / 8) 0 = l.getD (p / 8) 0 ||| 2 ^ (p % 8) := by
      simp [List.getD, hp8]
    rw [e, Nat.testBit_or, Nat.testBit_two_pow]
    congr 1
    rw [decide_eq_decide]
    omega
  · have e : (l.set (p / 8) (l.getD (p / 8) 0 ||| 2 ^ (p % 8))).getD (q / 8) 0 = l.getD (q / 8) 0 := by
      rw [List.getD_eq_getElem?_getD, List.getElem?_set_ne (by omega), ← List.getD_eq_getElem?_getD]
    rw [e]
    have : decide (q = p) = false := by simp; omega
    rw [this, Bool.or_false]
theorem bitV_set : ∀ (ps l : List Nat) (q : Nat), (∀ p ∈ ps, p < 8 * l.length) → bitV (setV l ps) q = (bitV l q || decide (q ∈ ps)) := by
  intro ps
  induction ps with
  | nil => intro l q _; simp [setV]
  | cons p r ih =>
    intro l q h
    show bitV (setV (orV l p) r) q = _
    rw [ih _ _ (fun x hx => by rw [orV_length]; exact h x (by simp [hx])), bitV_or _ _ _ (h p (by simp)), Bool.or_assoc]
    congr 1
    simp
theorem ones_or_byte : ∀ x, x < 256 → ∀ k, k < 8 → Lib.onesCount (x ||| 2 ^ k) = Lib.onesCount x + (if x.testBit k then 0 else 1) := by decide +kernel
theorem sum_set : ∀ (l : List Nat) (i : Nat) (y : Nat), i < l.length → ((l.set i y).map Lib.onesCount).sum + Lib.onesCount (l.getD i 0) = (l.map Lib.onesCount).sum + Lib.onesCount y := by
  intro l
  induction l with
  | nil => intro i y h; simp at h
  | cons x r ih =>
    intro i y h
    cases i with
    | zero => simp; omega
    | succ i =>
      have := ih i y (by simpa using h)
      simp at this ⊢
      omega
theorem ones_or {l : List Nat} (hb : ∀ x ∈ l, x < 256) (p : Nat) (hp : p < 8 * l.length) : onesV (orV l p) = onesV l + (if bitV l p then 0 else 1) := by
  have h1 := sum_set l (p / 8) (l.getD (p / 8) 0 ||| 2 ^ (p % 8)) (by omega)
  have h2 := ones_or_byte _ (getD_lt hb (p / 8)) (p % 8) (by omega)
  unfold onesV orV bitV
  rw [h2] at h1
  omega
/-- The document's row, and a row with places more. -/
def withV (on : List Nat) : List Nat → List Nat
  | [] => on
  | p :: r => withV (if p ∈ on then on else on ++ [p]) r
/-- A row of bits is a row of places. -/
structure RowOf (l : List Nat) (on : List Nat) : Prop where
  byte : ∀ x ∈ l, x < 256
  bit : ∀ q, bitV l q = decide (q ∈ on)
  many : onesV l = on.length
theorem RowOf.step {l on : List Nat} (h : RowOf l on) (p : Nat) (hp : p < 8 * l.length) : RowOf (orV l p) (if p ∈ on then on else on ++ [p]) := by
  refine ⟨orV_byte h.byte p, fun q => ?_, ?_⟩
  · rw [bitV_or _ _ _ hp, h.bit]
    by_cases hm : p ∈ on
    · rw [if_pos hm]
      by_cases hq : q = p
      · subst hq; simp [hm]
      · simp [hq]
    · rw [if_neg hm]
      by_cases hq : q = p
      · simp [hq]
      · simp [hq]
  · rw [ones_or h.byte p hp, h.bit, h.many]
    by_cases hm : p ∈ on
    · simp [hm]
    · simp [hm]
theorem RowOf.steps : ∀ (ps l on : List Nat), RowOf l on → (∀ p ∈ ps, p < 8 * l.length) → RowOf (setV l ps) (withV on ps) := by
  intro ps
  induction ps with
  | nil => intro l on h _; exact h
  | cons p r ih =>
    intro l on h hp
    exact ih _ _ (h.step p (hp p (by simp))) fun q hq => by rw [orV_length]; exact hp q (by simp [hq])
theorem RowOf.all {l on : List Nat} (h : RowOf l on) (ps : List Nat) : allV l ps = ps.all fun p => decide (p ∈ on) := by
  unfold allV
  congr 1
  funext q
  exact h.bit q
theorem withV_same {on ps : List Nat} (h : ∀ p ∈ ps, p ∈ on) : withV on ps = on := by
  induction ps with
  | nil => rfl
  | cons p r ih =>
    show withV (if p ∈ on then on else on ++ [p]) r = _
    rw [if_pos (h p (by simp))]
    exact ih fun q hq => h q (by simp [hq])
theorem onesV_zero (k : Nat) : onesV (List.replicate k 0) = 0 := by
  induction k with
  | zero => rfl
  | succ k ih =>
    unfold onesV at ih ⊢
    rw [List.replicate_succ, List.map_cons, List.sum_cons, ih]
    decide
theorem RowOf.zero (k : Nat) : RowOf (List.replicate k 0) [] := by
  refine ⟨fun x hx => by rw [List.eq_of_mem_replicate hx]; decide, fun q => ?_, onesV_zero k⟩
  unfold bitV
  have e : (List.replicate k 0).getD (q / 8) 0 = 0 := by
    rw [List.getD_eq_getElem?_getD, List.getElem?_replicate]
    split <;> rfl
  rw [e]
  simp
theorem ones_byte : ∀ x, x < 256 → Lib.onesCount x ≤ 8 := by decide +kernel
theorem ones_le : ∀ (l : List Nat) (j : Nat) (_ : (l.take j).length ≤ j) (_ : ∀ x ∈ l, x < 256), onesV (l.take j) ≤ 8 * j := by
  intro l j hj hb
  have : ∀ r : List Nat, (∀ x ∈ r, x < 256) → onesV r ≤ 8 * r.length := by
    intro r
    induction r with
    | nil => intro _; exact Nat.le_refl _
    | cons x r ih =>
      intro h
      have h1 := ones_byte x (h x (by simp))
      have h2 := ih fun y hy => h y (by simp [hy])
      unfold onesV at h2 ⊢
      rw [List.map_cons, List.sum_cons, List.length_cons]
      omega
  have h1 := this (l.take j) fun x hx => hb x (List.mem_of_mem_take hx)
  omega
end Go.Proofs.Ytcnpomejdnpegaa
