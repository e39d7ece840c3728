/- Made once more (by gen19s.py). -/
import Derived.Test.YtpabnpgbclfcfaaAutN
namespace Go.Proofs.Ytpabnpgbclfcfaa
open Go.RowKit
set_option linter.unusedVariables false
set_option linter.unusedSimpArgs false
theorem nums_st {K s n : Nat} {l : List Int} (hl : StP l n) (hs : s < K) : StP (numsO K s l) (n * K : Nat) := by
  intro z hz
  unfold numsO at hz
  obtain ⟨y, hy, rfl⟩ := List.mem_map.1 hz
  obtain ⟨h0, h1⟩ := hl y hy
  obtain ⟨m, rfl⟩ : ∃ m : Nat, y = (m : Int) := ⟨y.toNat, by omega⟩
  have hm : m < n := by omega
  have h2 : m * K + s < n * K := by
    have : m * K + K ≤ n * K := by rw [← Nat.succ_mul]; exact Nat.mul_le_mul_right K hm
    omega
  have e : (m : Int) * (K : Int) + (s : Int) = ((m * K + s : Nat) : Int) := by push_cast; rfl
  rw [e]
  omega
theorem acc_st {K n : Nat} {f : Nat → Nat → Bool} (hK : 0 < K) : StP (accO K f n) (n * K : Nat) := by
  intro z hz
  unfold accO at hz
  obtain ⟨q, hq, rfl⟩ := List.mem_map.1 hz
  have hq1 : q < n := List.mem_range.1 (List.mem_filter.1 hq).1
  have h2 : q * K < n * K := Nat.mul_lt_mul_of_pos_right hq1 hK
  have e : (q : Int) * (K : Int) = ((q * K : Nat) : Int) := by push_cast; rfl
  rw [e]
  omega
theorem acc_mem {K n q i : Nat} {f : Nat → Nat → Bool} (hi : i < K) (hq : q < n) : decide (((q * K + i : Nat) : Int) ∈ accO K f n) = (if i = 0 then f 0 q else false) := by
  by_cases h0 : i = 0
  · subst h0
    rw [if_pos rfl, Nat.add_zero, Bool.eq_iff_iff, decide_eq_true_iff]
    unfold accO
    rw [List.mem_map]
    constructor
    · rintro ⟨p, hp, he⟩
      have e : (p : Int) * (K : Int) = ((p * K : Nat) : Int) := by push_cast; rfl
      rw [e] at he
      have he2 : p * K = q * K := by omega
      have : p = q := Nat.eq_of_mul_eq_mul_right (by omega) he2
      subst this
      exact (List.mem_filter.1 hp).2
    · intro hf
      exact ⟨q, List.mem_filter.2 ⟨List.mem_range.2 hq, hf⟩, by push_cast; rfl⟩
  · rw [if_neg h0]
    refine decide_eq_false fun hm => ?_
    unfold accO at hm
    obtain ⟨p, hp, he⟩ := List.mem_map.1 hm
    have e : (p : Int) * (K : Int) = ((p * K : Nat) : Int) := by push_cast; rfl
    rw [e] at he
    have he2 : p * K = q * K + i := by omega
    have h1 : (p * K) % K = 0 := Nat.mul_mod_left p K
    rw [he2, Nat.add_comm, Nat.add_mul_mod_self_right, Nat.mod_eq_of_lt hi] at h1
    exact h0 h1
theorem right_deg {n : Nat} {ln : Nat → Nat} {lit : Nat → Nat → T} {next : Nat → List Int} {init : List Int} {cn : Nat} {acc : Nat → List Int} {K : Nat} {f : Nat → Nat → Bool} (hK : 0 < K) (h : RightP n ln lit n next init cn acc) :
    RightP (n * K) (fun x => ln (x / K)) (fun x => lit (x / K)) (n * K) (nextO K f next) (numsO K 0 init) 1 (fun _ => accO K f n) := by
  obtain ⟨h1, _, h3, h4⟩ := h
  refine ⟨nums_st h1 hK, rfl, fun x hx => ?_, fun i hi => acc_st hK⟩
  have hq : x / K < n := Nat.div_lt_of_lt_mul (by rw [Nat.mul_comm]; exact hx)
  refine ⟨?_, fun i hi => (h3 (x / K) hq).2 i hi⟩
  unfold nextO
  exact nums_st (h3 (x / K) hq).1 (setO_lt (Nat.mod_lt _ hK))

theorem ceilR0 (q K : Nat) (hK : 0 < K) : (q * K + K - 1) / K = q := Nat.div_eq_of_lt_le (by omega) (by rw [Nat.succ_mul]; omega)
theorem ceilR1 (q i K : Nat) (h0 : 0 < i) (hi : i ≤ K) : (q * K + i + K - 1) / K = q + 1 := Nat.div_eq_of_lt_le (by rw [Nat.succ_mul]; omega) (by rw [Nat.succ_mul, Nat.succ_mul]; omega)
theorem acc_range (K : Nat) (f : Nat → Nat → Bool) (hK : 0 < K) : ∀ m, ((List.range m).filter (fun x => decide (x % K = 0) && f 0 (x / K))).map (fun (x : Nat) => (x : Int)) = accO K f ((m + K - 1) / K) := by
  intro m
  induction m with
  | zero =>
    rw [Nat.zero_add, Nat.div_eq_of_lt (by omega)]
    rfl
  | succ m ih =>
    rw [List.range_succ, List.filter_append, List.map_append, ih]
    have hm : m = (m / K) * K + m % K := by rw [Nat.mul_comm]; exact (Nat.div_add_mod m K).symm
    obtain ⟨q, hq⟩ : ∃ q, m / K = q := ⟨_, rfl⟩
    obtain ⟨i, hi⟩ : ∃ i, m % K = i := ⟨_, rfl⟩
    have hiK : i < K := by rw [← hi]; exact Nat.mod_lt _ hK
    rw [hq, hi] at hm
    have h1 : (m + 1 + K - 1) / K = q + 1 := by rw [hm]; exact ceilR1 q (i + 1) K (by omega) (by omega)
    rw [h1]
    by_cases h0 : i = 0
    · have h2 : (m + K - 1) / K = q := by rw [hm, h0, Nat.add_zero]; exact ceilR0 q K hK
      rw [h2, accO_succ]
      congr 1
      have e : (m : Int) = (q : Int) * (K : Int) := by rw [hm, h0]; push_cast; omega
      by_cases hf : f 0 q = true
      · rw [if_pos hf]
        simp [hi, h0, hq, hf, e]
      · rw [if_neg hf]
        simp [hi, h0, hq, hf]
    · have h2 : (m + K - 1) / K = q + 1 := by rw [hm]; exact ceilR1 q i K (by omega) (by omega)
      rw [h2]
      simp [hi, h0]
theorem acc_again (K n : Nat) (f : Nat → Nat → Bool) (hK : 0 < K) : accO 1 (inB 1 (fun _ => accO K f n)) (n * K) = accO K f n := by
  have h1 := acc_range K f hK (n * K)
  rw [ceilR0 n K hK] at h1
  refine Eq.trans ?_ h1
  show ((List.range (n * K)).filter (fun q => inB 1 (fun _ => accO K f n) 0 q)).map (fun (q : Nat) => (q : Int) * ((1 : Nat) : Int)) = _
  have h2 : (List.range (n * K)).filter (fun q => inB 1 (fun _ => accO K f n) 0 q) = (List.range (n * K)).filter (fun x => decide (x % K = 0) && f 0 (x / K)) := by
    refine List.filter_congr fun x hx => ?_
    have hxl := List.mem_range.1 hx
    have hm : x = (x / K) * K + x % K := by rw [Nat.mul_comm]; exact (Nat.div_add_mod x K).symm
    have hmm := acc_mem (f := f) (n := n) (q := x / K) (i := x % K) (Nat.mod_lt x hK) (Nat.div_lt_of_lt_mul (by rw [Nat.mul_comm]; exact hxl))
    rw [← hm] at hmm
    unfold inB
    rw [if_neg (by decide)]
    rw [hmm]
    by_cases h0 : x % K = 0
    · rw [if_pos h0]; simp [h0]
    · rw [if_neg h0]; simp [h0]
  rw [h2]
  refine List.map_congr_left fun x _ => ?_
  show (x : Int) * ((1 : Nat) : Int) = (x : Int)
  omega
theorem nums_one (l : List Int) : numsO 1 0 l = l := by
  unfold numsO
  conv => rhs; rw [← List.map_id l]
  refine List.map_congr_left fun x _ => ?_
  show x * ((1 : Nat) : Int) + ((0 : Nat) : Int) = x
  omega
theorem next_one (f : Nat → Nat → Bool) (next : Nat → List Int) (x : Nat) : nextO 1 f next x = next x := by
  unfold nextO
  have h : setO 1 f (x % 1) (x / 1) = 0 := by
    have := setO_lt (K := 1) (f := f) (i := x % 1) (q := x / 1) (Nat.mod_lt _ (by decide))
    omega
  rw [h, nums_one, Nat.div_one]
theorem AutAt.congr {w : World} {la na ia ca : Option Addr} {n nn il cn : Nat} {ln ln' : Nat → Nat} {lit lit' : Nat → Nat → T} {next next' : Nat → List Int} {init init' : List Int} {acc acc' : Nat → List Int} (h : AutAt w la na ia ca n nn il cn ln lit next init acc) (h1 : ∀ j, j < n → ln j = ln' j ∧ ∀ i, i < ln j → lit j i = lit' j i) (h2 : ∀ j, j < nn → next j = next' j) (h3 : init = init') (h4 : ∀ j, j < cn → acc j = acc' j) : AutAt w la na ia ca n nn il cn ln' lit' next' init' acc' :=
  ⟨h.lits.congr h1, h.next.congr h2, h3 ▸ h.init, h.acc.congr h4, h.hn, h.hnn, h.hcn⟩
theorem of_twice (w : World) (la na ia ca : Option Addr) (NK lc nc il ic cc : Nat) (n K : Nat) (f : Nat → Nat → Bool) (ln : Nat → Nat) (lit : Nat → Nat → T) (next : Nat → List Int) (init : List Int) (hK : 0 < K) (hNK : n * K = NK) (h : AutAt w la na ia ca NK NK il 1 (fun x => ln (x / K)) (fun x => lit (x / K)) (nextO K f next) (numsO K 0 init) (fun _ => accO K f n))
    (hR : RightP NK (fun x => ln (x / K)) (fun x => lit (x / K)) NK (nextO K f next) (numsO K 0 init) 1 (fun _ => accO K f n)) (hmay : ∀ q, q < n → ∀ i, i < ln q → MayP (lit q i)) (hn : NK ≤ 1000) (hil : il ≤ 1000000) (hnx : ∀ q, q < n → (next q).length ≤ 1000000) (hln : ∀ q, q < n → ln q ≤ 1000000) :
    Calls Try.prog 9 #[.agg #[.slice la NK lc, .slice na NK nc, .slice ia il ic, .slice ca 1 cc]] w fun e w' => (∃ (la2 na2 ia2 ca2 : Option Addr) (lc2 nc2 ic2 cc2 : Nat), e = .returned (.agg #[.slice la2 NK lc2, .slice na2 NK nc2, .slice ia2 il ic2, .slice ca2 1 cc2]) ∧ AutAt w' la2 na2 ia2 ca2 NK NK il 1 (fun x => ln (x / K)) (fun x => lit (x / K)) (nextO K f next) (numsO K 0 init) (fun _ => accO K f n)) ∧ Below w.heap.size w w' := by
  have hq : ∀ x, x < NK → x / K < n := fun x hx => Nat.div_lt_of_lt_mul (by rw [Nat.mul_comm, hNK]; exact hx)
  refine (of_any w la na ia ca NK lc NK nc il ic 1 cc _ _ _ _ _ h 1 (by rw [if_neg (by decide)]) hR (fun q hqn i hi => hmay (q / K) (hq q hqn) i hi) hn (by omega) hil (fun q hqn => ?_) (fun q hqn => hln (q / K) (hq q hqn))).mono ?_
  · unfold nextO numsO
    rw [List.length_map]
    exact hnx (q / K) (hq q hqn)
  · rintro e w' ⟨⟨la2, na2, ia2, ca2, lc2, nc2, ic2, cc2, he, hA⟩, hb⟩
    rw [Nat.mul_one] at he hA
    refine ⟨⟨la2, na2, ia2, ca2, lc2, nc2, ic2, cc2, he, hA.congr (fun j _ => ?_) (fun j _ => ?_) (nums_one _) (fun j _ => ?_)⟩, hb⟩
    · rw [Nat.div_one]
      exact ⟨rfl, fun _ _ => rfl⟩
    · exact next_one _ _ _
    · rw [← hNK]
      exact acc_again K n f hK
end Go.Proofs.Ytpabnpgbclfcfaa
