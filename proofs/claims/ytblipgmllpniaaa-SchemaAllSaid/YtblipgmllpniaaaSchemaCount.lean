/- How many bytes are vectors of small ranges: plain facts. -/
import Derived.Test.YtblipgmllpniaaaSchema16
namespace Go.Proofs.Ytblipgmllpniaaa
open Go.RowKit
set_option linter.unusedVariables false

/-- How many of the first numbers have a property. -/
def cnt (n : Nat) (P : Nat → Bool) : Nat := (List.range n).countP P
theorem cnt_succ (n : Nat) (P : Nat → Bool) : cnt (n + 1) P = cnt n P + if P n then 1 else 0 := by
  unfold cnt
  rw [List.range_succ, List.countP_append]
  cases h : P n <;> simp [h]
theorem cnt_congr (n : Nat) (P Q : Nat → Bool) (h : ∀ i, i < n → P i = Q i) : cnt n P = cnt n Q := by
  induction n with
  | zero => rfl
  | succ n ih => rw [cnt_succ, cnt_succ, ih (fun i hi => h i (by omega)), h n (by omega)]
theorem cnt_add (m n : Nat) (P : Nat → Bool) : cnt (m + n) P = cnt m P + cnt n (fun i => P (m + i)) := by
  induction n with
  | zero => simp [cnt]
  | succ n ih => rw [← Nat.add_assoc, cnt_succ, ih, cnt_succ, Nat.add_assoc]
theorem cnt_false (n : Nat) : cnt n (fun _ => false) = 0 := by
  induction n with
  | zero => rfl
  | succ n ih => rw [cnt_succ, ih]; rfl
theorem cnt_prod (p : Nat) (hp : 0 < p) (P Q : Nat → Bool) : ∀ a, cnt (a * p) (fun x => P (x / p) && Q (x % p)) = cnt a P * cnt p Q
  | 0 => by simp [cnt]
  | a + 1 => by
    rw [Nat.add_mul, Nat.one_mul, cnt_add, cnt_prod p hp P Q a, cnt_succ]
    have e : cnt p (fun i => P ((a * p + i) / p) && Q ((a * p + i) % p)) = if P a then cnt p Q else 0 := by
      rw [cnt_congr p _ (fun i => P a && Q i) (fun i hi => by
        rw [Nat.mul_comm a p, Nat.mul_add_div hp, Nat.div_eq_of_lt hi, Nat.add_zero, Nat.mul_add_mod, Nat.mod_eq_of_lt hi])]
      cases h : P a
      · simp only [Bool.false_and]; rw [cnt_false]; rfl
      · simp only [Bool.true_and, if_true]
    rw [e, Nat.add_mul]
    cases P a <;> simp
theorem cnt_le (k p : Nat) (h : k < p) : cnt p (fun d => decide (d ≤ k)) = k + 1 := by
  obtain ⟨m, rfl⟩ : ∃ m, p = k + 1 + m := ⟨p - (k + 1), by omega⟩
  rw [cnt_add, cnt_congr m _ (fun _ => false) (fun i _ => by simp; omega), cnt_false, Nat.add_zero]
  have key : ∀ n, n ≤ k + 1 → cnt n (fun d => decide (d ≤ k)) = n := by
    intro n
    induction n with
    | zero => intro _; rfl
    | succ n ih => intro hn; rw [cnt_succ, ih (by omega), if_pos (by simp; omega)]
  exact key _ (Nat.le_refl _)
theorem cnt_zero (p : Nat) (h : 0 < p) : cnt p (fun d => decide (d = 0)) = 1 := by
  have h0 := cnt_le 0 p h
  rw [Nat.zero_add] at h0
  exact (cnt_congr _ _ _ (fun i _ => by simp)).trans h0
theorem val_cut (b N i k : Nat) (h : i + k ≤ N) : valOf (cutBits (digs b N) i k) = b / 2 ^ (N - i - k) % 2 ^ k := by
  have e : cutBits (digs b N) i k = digs (b / 2 ^ (N - i - k) % 2 ^ k) k := by
    apply List.ext_getElem
    · rw [cutBits_length _ _ _ (by rw [digs_length]; exact h), digs_length]
    · intro j h1 h2
      rw [digs_length] at h2
      simp only [cutBits, digs, List.getElem_take, List.getElem_drop, List.getElem_map, List.getElem_range]
      rw [show b / 2 ^ (N - i - k) % 2 ^ k / 2 ^ (k - 1 - j) % 2 = b / 2 ^ (N - i - k) / 2 ^ (k - 1 - j) % 2 from by
        have hk : 2 ^ k = 2 ^ (k - 1 - j) * (2 * 2 ^ j) := by
          rw [← Nat.pow_succ', ← Nat.pow_add]; congr 1; omega
        rw [hk, Nat.mod_mul_right_div_self, Nat.mod_mul_right_mod], Nat.div_div_eq_div_mul, ← Nat.pow_add]
      congr 3
      omega
  rw [e, valOf_digs _ _ (Nat.mod_lt _ (Nat.two_pow_pos _))]
theorem bitsOf_one (b : Nat) : bitsOf [b] = digs b 8 := by
  unfold bitsOf unpack digs
  apply List.map_congr_left
  intro k hk
  have hk' := List.mem_range.1 hk
  simp at hk'
  unfold bitAt
  rw [show k / 8 = 0 from by omega, show k % 8 = k from by omega]
  simp
/-- Are the first numbers of bits in their ranges? -/
def VN (fs : List (Int × Int)) : Nat → Nat → Bool
  | 0, x => decide (x = 0)
  | j + 1, x => VN fs j (x / 2 ^ wideF (fs.getD j (0, 0))) && decide (x % 2 ^ wideF (fs.getD j (0, 0)) ≤ ((fs.getD j (0, 0)).2 - (fs.getD j (0, 0)).1).toNat)
/-- How many vectors there are. -/
def manyTo (fs : List (Int × Int)) : Nat → Nat
  | 0 => 1
  | j + 1 => manyTo fs j * (((fs.getD j (0, 0)).2 - (fs.getD j (0, 0)).1).toNat + 1)
theorem cnt_VN (fs : List (Int × Int)) (hr : ∀ f ∈ fs, RightF f) : ∀ j, j ≤ fs.length → cnt (2 ^ bitsF (fs.take j)) (VN fs j) = manyTo fs j
  | 0, _ => by
    show cnt (2 ^ bitsF []) (VN fs 0) = 1
    exact cnt_zero 1 (by omega)
  | j + 1, h => by
    have hrf := hr _ (getD_mem (fs := fs) (i := j) (by omega))
    rw [bitsF_step fs j (by omega), Nat.pow_add]
    have e : VN fs (j + 1) = fun x => VN fs j (x / 2 ^ wideF (fs.getD j (0, 0))) && (fun d => decide (d ≤ ((fs.getD j (0, 0)).2 - (fs.getD j (0, 0)).1).toNat)) (x % 2 ^ wideF (fs.getD j (0, 0))) := rfl
    rw [e]
    refine (cnt_prod (2 ^ wideF (fs.getD j (0, 0))) (Nat.two_pow_pos _) (VN fs j) (fun d => decide (d ≤ ((fs.getD j (0, 0)).2 - (fs.getD j (0, 0)).1).toNat)) _).trans ?_
    rw [cnt_VN fs hr j (by omega), cnt_le]
    · rfl
    · unfold wideF
      exact bitLen_lt2 _ (by obtain ⟨r1, r2, r3, r4⟩ := hrf; omega)
theorem VN_iff (fs : List (Int × Int)) (b : Nat) (hb : b < 256) (h8 : bitsF fs ≤ 8) : ∀ j, j ≤ fs.length → (VN fs j (b / 2 ^ (8 - bitsF (fs.take j))) = true ↔ ∀ i, i < j → b / 2 ^ (8 - bitsF (fs.take (i + 1))) % 2 ^ wideF (fs.getD i (0, 0)) ≤ ((fs.getD i (0, 0)).2 - (fs.getD i (0, 0)).1).toNat)
  | 0, _ => by
    show (decide (b / 2 ^ (8 - bitsF []) = 0) = true) ↔ _
    simp [bitsF]
    omega
  | j + 1, h => by
    have ih := VN_iff fs b hb h8 j (by omega)
    have hst := bitsF_step fs j (by omega)
    have hle := bitsF_le_all fs (j + 1)
    have e : b / 2 ^ (8 - bitsF (fs.take (j + 1))) / 2 ^ wideF (fs.getD j (0, 0)) = b / 2 ^ (8 - bitsF (fs.take j)) := by
      rw [Nat.div_div_eq_div_mul, ← Nat.pow_add]
      congr 2
      omega
    show (VN fs j (b / 2 ^ (8 - bitsF (fs.take (j + 1))) / 2 ^ wideF (fs.getD j (0, 0))) && decide _) = true ↔ _
    rw [e, Bool.and_eq_true, ih, decide_eq_true_iff]
    constructor
    · rintro ⟨h1, h2⟩ i hi
      by_cases hij : i = j
      · rw [hij]; exact h2
      · exact h1 i (by omega)
    · intro h1
      exact ⟨fun i hi => h1 i (by omega), h1 j (by omega)⟩
theorem isEnc_one (fs : List (Int × Int)) (hr : ∀ f ∈ fs, RightF f) (b : Nat) (hb : b < 256) (h8 : bitsF fs ≤ 8) : IsEnc fs [b] ↔ (VN fs fs.length (b / 2 ^ (8 - bitsF fs)) && decide (b % 2 ^ (8 - bitsF fs) = 0)) = true := by
  have hv := VN_iff fs b hb h8 fs.length (Nat.le_refl _)
  rw [List.take_length] at hv
  rw [Bool.and_eq_true, hv, decide_eq_true_iff]
  have h1 : [b].length = bytesF fs := by unfold bytesF; rw [List.length_singleton]; split <;> omega
  have h2 : restS fs [b] = b % 2 ^ (8 - bitsF fs) := by
    unfold restS
    rw [bitsOf_one, show 8 * [b].length = 8 from rfl, val_cut b 8 _ _ (by omega), show 8 - bitsF fs - (8 - bitsF fs) = 0 from by omega, Nat.pow_zero, Nat.div_one]
  have h3 : AllIn fs (decTo fs [b] fs.length) ↔ ∀ i, i < fs.length → b / 2 ^ (8 - bitsF (fs.take (i + 1))) % 2 ^ wideF (fs.getD i (0, 0)) ≤ ((fs.getD i (0, 0)).2 - (fs.getD i (0, 0)).1).toNat := by
    unfold AllIn
    have key : ∀ i, i < fs.length → (hasF (fs.getD i (0, 0)) ((decTo fs [b] fs.length).getD i 0) = true ↔ b / 2 ^ (8 - bitsF (fs.take (i + 1))) % 2 ^ wideF (fs.getD i (0, 0)) ≤ ((fs.getD i (0, 0)).2 - (fs.getD i (0, 0)).1).toNat) := by
      intro i hi
      have hst := bitsF_step fs i hi
      have hle := bitsF_le_all fs (i + 1)
      have hrf := hr _ (getD_mem hi)
      rw [decTo_getD _ _ _ _ hi]
      unfold decAt hasF
      rw [bitsOf_one, val_cut b 8 _ _ (by omega), show 8 - bitsF (fs.take i) - wideF (fs.getD i (0, 0)) = 8 - bitsF (fs.take (i + 1)) from by omega, decide_eq_true_iff]
      generalize b / 2 ^ (8 - bitsF (fs.take (i + 1))) % 2 ^ wideF (fs.getD i (0, 0)) = d
      obtain ⟨r1, _, _, _⟩ := hrf
      constructor
      · rintro ⟨_, h⟩; omega
      · intro h; exact ⟨by omega, by omega⟩
    exact ⟨fun h i hi => (key i hi).1 (h i hi), fun h i hi => (key i hi).2 (h i hi)⟩
  unfold IsEnc
  rw [h2, h3]
  constructor
  · rintro ⟨_, a, c⟩; exact ⟨c, a⟩
  · rintro ⟨c, a⟩; exact ⟨h1, a, c⟩
/-- So many bytes are vectors as there are vectors. -/
theorem cnt_isEnc (fs : List (Int × Int)) (hr : ∀ f ∈ fs, RightF f) (h8 : bitsF fs ≤ 8) : cnt 256 (fun b => decide (IsEnc fs [b])) = manyTo fs fs.length := by
  have e : (256 : Nat) = 2 ^ bitsF fs * 2 ^ (8 - bitsF fs) := by rw [← Nat.pow_add, show bitsF fs + (8 - bitsF fs) = 8 from by omega]
  have hv := cnt_VN fs hr fs.length (Nat.le_refl _)
  rw [List.take_length] at hv
  rw [cnt_congr 256 _ (fun x => VN fs fs.length (x / 2 ^ (8 - bitsF fs)) && (fun d => decide (d = 0)) (x % 2 ^ (8 - bitsF fs))) (fun b hb => by
    rw [Bool.eq_iff_iff, decide_eq_true_iff]
    exact isEnc_one fs hr b hb h8)]
  rw [e]
  refine (cnt_prod (2 ^ (8 - bitsF fs)) (Nat.two_pow_pos _) (VN fs fs.length) (fun d => decide (d = 0)) _).trans ?_
  rw [hv, cnt_zero _ (Nat.two_pow_pos _), Nat.mul_one]
end Go.Proofs.Ytblipgmllpniaaa
