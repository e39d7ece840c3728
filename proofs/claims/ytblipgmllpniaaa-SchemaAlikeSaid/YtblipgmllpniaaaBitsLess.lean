/- Of bits of one length the lesser number's bytes come first: plain facts. -/
import Derived.Test.YtblipgmllpniaaaBitsPure
import Derived.Lib.Bytes
import Derived.Lib.SmallJoins
namespace Go.Proofs.Ytblipgmllpniaaa
set_option linter.unusedVariables false

def natsLess : List Nat → List Nat → Bool
  | _, [] => false
  | [], _ :: _ => true
  | a :: x, b :: y => decide (a < b) || (a == b && natsLess x y)
theorem bytesLess_nats : ∀ (l m : List Nat), (∀ n ∈ l, n < 256) → (∀ n ∈ m, n < 256) → Op.bytesLess (Lib.bytesOf (l.map fun (c : Nat) => (c : Int))) (Lib.bytesOf (m.map fun (c : Nat) => (c : Int))) = natsLess l m
  | l, [], _, _ => by cases l <;> rfl
  | [], _ :: _, _, _ => rfl
  | a :: x, b :: y, h1, h2 => by
    have ih := bytesLess_nats x y (fun n hn => h1 n (by simp [hn])) (fun n hn => h2 n (by simp [hn]))
    have ha := h1 a (by simp)
    have hb := h2 b (by simp)
    have e1 : decide (UInt8.ofNat a < UInt8.ofNat b) = decide (a < b) := by
      refine decide_eq_decide.2 ?_
      rw [UInt8.lt_iff_toNat_lt]
      simp
      omega
    have e2 : (UInt8.ofNat a == UInt8.ofNat b) = (a == b) := by
      rw [Bool.eq_iff_iff, beq_iff_eq, beq_iff_eq]
      constructor
      · intro h
        have := congrArg UInt8.toNat h
        simp at this
        omega
      · rintro rfl; rfl
    unfold Lib.bytesOf at ih ⊢
    simp only [List.map_cons, Int.toNat_natCast, Op.bytesLess, natsLess, ih, e1, e2]

theorem drop_getD (bs : List Nat) (k i : Nat) : (bs.drop k).getD i 0 = bs.getD (k + i) 0 := by simp [List.getD]
theorem pack_cons (bs : List Nat) (h : bs ≠ []) : pack bs = byteOf bs 0 :: pack (bs.drop 8) := by
  have hl : 0 < bs.length := by cases bs <;> simp_all
  unfold pack
  rw [List.length_drop, show (bs.length + 7) / 8 = (bs.length - 8 + 7) / 8 + 1 from by omega, List.range_succ_eq_map, List.map_cons, List.map_map]
  congr 1
  apply List.map_congr_left
  intro j _
  show byteOf bs (j + 1) = byteOf (bs.drop 8) j
  unfold byteOf
  simp only [drop_getD]
  rw [show 8 * (j + 1) = 8 + 8 * j from by omega]
  simp only [Nat.add_assoc]
theorem val_short : ∀ bs : List Nat, bs.length < 8 → 0 < bs.length → byteOf bs 0 = valOf bs * 2 ^ (8 - bs.length)
  | [a], _, _ => by simp [byteOf, valOf]
  | [a, b], _, _ => by simp [byteOf, valOf]; omega
  | [a, b, c], _, _ => by simp [byteOf, valOf]; omega
  | [a, b, c, d], _, _ => by simp [byteOf, valOf]; omega
  | [a, b, c, d, e], _, _ => by simp [byteOf, valOf]; omega
  | [a, b, c, d, e, f], _, _ => by simp [byteOf, valOf]; omega
  | [a, b, c, d, e, f, g], _, _ => by simp [byteOf, valOf]; omega
  | [], _, h => by simp at h
  | _ :: _ :: _ :: _ :: _ :: _ :: _ :: _ :: _, h, _ => by simp at h; omega
theorem val_eight : ∀ bs : List Nat, 8 ≤ bs.length → valOf (bs.take 8) = byteOf bs 0
  | a :: b :: c :: d :: e :: f :: g :: h :: r, _ => by simp [byteOf, valOf]; omega
  | [a, b, c, d, e, f, g], h | [a, b, c, d, e, f], h | [a, b, c, d, e], h | [a, b, c, d], h | [a, b, c], h | [a, b], h | [a], h | [], h => by simp at h
theorem val_long (bs : List Nat) (h : 8 ≤ bs.length) : valOf bs = byteOf bs 0 * 2 ^ (bs.length - 8) + valOf (bs.drop 8) := by
  have := valOf_append (bs.take 8) (bs.drop 8)
  rw [List.take_append_drop, val_eight bs h, List.length_drop] at this
  exact this
theorem lex_num (B C R S p : Nat) (hR : R < p) (hS : S < p) : B * p + R < C * p + S ↔ B < C ∨ (B = C ∧ R < S) := by
  rcases Nat.lt_trichotomy B C with h | h | h
  · have : (B + 1) * p ≤ C * p := Nat.mul_le_mul_right p h
    rw [Nat.add_mul, Nat.one_mul] at this
    constructor
    · intro _; exact .inl h
    · intro _; omega
  · subst h; constructor
    · intro h; exact .inr ⟨rfl, by omega⟩
    · rintro (h | ⟨_, h⟩) <;> omega
  · have : (C + 1) * p ≤ B * p := Nat.mul_le_mul_right p h
    rw [Nat.add_mul, Nat.one_mul] at this
    constructor
    · intro _; omega
    · rintro (h | ⟨h, _⟩) <;> omega
theorem val_step (bs cs : List Nat) (hl : bs.length = cs.length) (hb : IsBits bs) (hc : IsBits cs) (h0 : 0 < bs.length) : valOf bs < valOf cs ↔ byteOf bs 0 < byteOf cs 0 ∨ (byteOf bs 0 = byteOf cs 0 ∧ valOf (bs.drop 8) < valOf (cs.drop 8)) := by
  by_cases h8 : 8 ≤ bs.length
  · rw [val_long bs h8, val_long cs (by omega), ← hl]
    refine lex_num _ _ _ _ _ ?_ ?_
    · have := valOf_lt (bs.drop 8) (fun x hx => hb x (List.mem_of_mem_drop hx)); rwa [List.length_drop] at this
    · have := valOf_lt (cs.drop 8) (fun x hx => hc x (List.mem_of_mem_drop hx)); rwa [List.length_drop, ← hl] at this
  · rw [val_short bs (by omega) h0, val_short cs (by omega) (by omega), ← hl]
    have e1 : bs.drop 8 = [] := List.drop_eq_nil_of_le (by omega)
    have e2 : cs.drop 8 = [] := List.drop_eq_nil_of_le (by omega)
    rw [e1, e2]
    have hp : 0 < 2 ^ (8 - bs.length) := Nat.two_pow_pos _
    rw [Nat.mul_lt_mul_right hp]
    simp [valOf]
theorem pack_less : ∀ (N : Nat) (bs cs : List Nat), bs.length ≤ N → bs.length = cs.length → IsBits bs → IsBits cs → natsLess (pack bs) (pack cs) = decide (valOf bs < valOf cs)
  | 0, bs, cs, hN, hl, _, _ => by
    obtain rfl := List.eq_nil_of_length_eq_zero (show bs.length = 0 by omega)
    obtain rfl := List.eq_nil_of_length_eq_zero (show cs.length = 0 by simpa using hl.symm)
    simp [pack_nil, natsLess]
  | N + 1, bs, cs, hN, hl, hb, hc => by
    by_cases h0 : bs.length = 0
    · obtain rfl := List.eq_nil_of_length_eq_zero h0
      obtain rfl := List.eq_nil_of_length_eq_zero (show cs.length = 0 by omega)
      simp [pack_nil, natsLess]
    · have ih := pack_less N (bs.drop 8) (cs.drop 8) (by rw [List.length_drop]; omega) (by rw [List.length_drop, List.length_drop, hl]) (fun x hx => hb x (List.mem_of_mem_drop hx)) (fun x hx => hc x (List.mem_of_mem_drop hx))
      rw [pack_cons bs (by intro e; rw [e] at h0; exact h0 rfl), pack_cons cs (by intro e; rw [e] at hl; exact h0 (by simpa using hl)), natsLess, ih, Bool.eq_iff_iff, decide_eq_true_iff, val_step bs cs hl hb hc (by omega)]
      simp
/-- Of two numbers in as many bits. -/
theorem digs_less (n m K : Nat) (hn : n < 2 ^ K) (hm : m < 2 ^ K) : Op.bytesLess (strOfNums ((pack (digs n K)).map fun (c : Nat) => (c : Int))).toList (strOfNums ((pack (digs m K)).map fun (c : Nat) => (c : Int))).toList = decide (n < m) := by
  rw [Lib.strOfNums_toList, Lib.strOfNums_toList, bytesLess_nats _ _ (pack_lt (digs_bits n K)) (pack_lt (digs_bits m K)), pack_less K _ _ (by rw [digs_length]; exact Nat.le_refl _) (by rw [digs_length, digs_length]) (digs_bits n K) (digs_bits m K), valOf_digs K n hn, valOf_digs K m hm]
theorem digs_same (n m K : Nat) (hn : n < 2 ^ K) (hm : m < 2 ^ K) : (pack (digs n K) = pack (digs m K)) ↔ n = m := by
  constructor
  · intro h
    have h1 := unpack_pack (digs_bits n K)
    have h2 := unpack_pack (digs_bits m K)
    rw [digs_length] at h1 h2
    rw [h, h2] at h1
    rw [← valOf_digs K n hn, ← valOf_digs K m hm, h1]
  · rintro rfl; rfl
end Go.Proofs.Ytblipgmllpniaaa
