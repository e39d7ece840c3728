/- Bits as lists of 0 and 1, and as bytes: plain facts. -/
import Derived.Below
namespace Go.Proofs.Ytblipgmllpniaaa
set_option linter.unusedVariables false

/-- Bit k of bytes. -/
def bitAt (l : List Nat) (k : Nat) : Nat := l.getD (k / 8) 0 / 2 ^ (7 - k % 8) % 2
/-- Byte j of bits. -/
def byteOf (bs : List Nat) (j : Nat) : Nat :=
  bs.getD (8 * j) 0 * 128 + bs.getD (8 * j + 1) 0 * 64 + bs.getD (8 * j + 2) 0 * 32 + bs.getD (8 * j + 3) 0 * 16 + bs.getD (8 * j + 4) 0 * 8 + bs.getD (8 * j + 5) 0 * 4 + bs.getD (8 * j + 6) 0 * 2 + bs.getD (8 * j + 7) 0
/-- Bits as bytes. -/
def pack (bs : List Nat) : List Nat := (List.range ((bs.length + 7) / 8)).map (byteOf bs)
/-- Are these bits? -/
def IsBits (bs : List Nat) : Prop := ∀ b ∈ bs, b < 2
instance (bs : List Nat) : Decidable (IsBits bs) := by unfold IsBits; infer_instance
theorem IsBits.getD {bs : List Nat} (h : IsBits bs) (k : Nat) : bs.getD k 0 < 2 := by
  by_cases hk : k < bs.length
  · have e : bs.getD k 0 = bs[k] := by simp [hk]
    rw [e]; exact h _ (List.getElem_mem hk)
  · have e : bs.getD k 0 = 0 := by simp [List.getD, List.getElem?_eq_none (by omega : bs.length ≤ k)]
    omega
theorem IsBits.append {a b : List Nat} (ha : IsBits a) (hb : IsBits b) : IsBits (a ++ b) := fun x hx => (List.mem_append.1 hx).elim (ha x) (hb x)
theorem IsBits.nil : IsBits [] := by intro b hb; simp at hb
theorem IsBits.one {b : Nat} (h : b < 2) : IsBits [b] := by intro x hx; simp at hx; omega
theorem pack_length (bs : List Nat) : (pack bs).length = (bs.length + 7) / 8 := by simp [pack]
theorem pack_getD (bs : List Nat) (j : Nat) (h : j < (bs.length + 7) / 8) : (pack bs).getD j 0 = byteOf bs j := by simp [pack, h]
theorem byteOf_lt {bs : List Nat} (h : IsBits bs) (j : Nat) : byteOf bs j < 256 := by
  have h0 := h.getD (8 * j); have h1 := h.getD (8 * j + 1); have h2 := h.getD (8 * j + 2); have h3 := h.getD (8 * j + 3)
  have h4 := h.getD (8 * j + 4); have h5 := h.getD (8 * j + 5); have h6 := h.getD (8 * j + 6); have h7 := h.getD (8 * j + 7)
  unfold byteOf; omega
theorem pack_lt {bs : List Nat} (h : IsBits bs) : ∀ n ∈ pack bs, n < 256 := by
  intro n hn
  obtain ⟨j, _, rfl⟩ := List.mem_map.1 hn
  exact byteOf_lt h j
/-- Places ahead of the bits' end are the bits; behind it 0. -/
theorem bitAt_pack {bs : List Nat} (h : IsBits bs) (k : Nat) : bitAt (pack bs) k = bs.getD k 0 := by
  by_cases hk : k / 8 < (bs.length + 7) / 8
  · unfold bitAt
    rw [pack_getD bs _ hk]
    unfold byteOf
    have e : k = 8 * (k / 8) + k % 8 := by omega
    generalize k / 8 = j at *
    have h0 := h.getD (8 * j); have h1 := h.getD (8 * j + 1); have h2 := h.getD (8 * j + 2); have h3 := h.getD (8 * j + 3)
    have h4 := h.getD (8 * j + 4); have h5 := h.getD (8 * j + 5); have h6 := h.getD (8 * j + 6); have h7 := h.getD (8 * j + 7)
    have hr : k % 8 = 0 ∨ k % 8 = 1 ∨ k % 8 = 2 ∨ k % 8 = 3 ∨ k % 8 = 4 ∨ k % 8 = 5 ∨ k % 8 = 6 ∨ k % 8 = 7 := by omega
    rcases hr with hr | hr | hr | hr | hr | hr | hr | hr <;> rw [hr] at e ⊢ <;> subst e <;> simp only [Nat.add_zero, Nat.sub_zero, Nat.reduceSub, Nat.reducePow] <;> omega
  · unfold bitAt
    have e1 : (pack bs).getD (k / 8) 0 = 0 := by simp [List.getD, List.getElem?_eq_none (by rw [pack_length]; omega : (pack bs).length ≤ k / 8)]
    have e2 : bs.getD k 0 = 0 := by simp [List.getD, List.getElem?_eq_none (by omega : bs.length ≤ k)]
    rw [e1, e2]; simp
/-- Bytes as bits. -/
def unpack (l : List Nat) (N : Nat) : List Nat := (List.range N).map (bitAt l)
theorem unpack_length (l : List Nat) (N : Nat) : (unpack l N).length = N := by simp [unpack]
theorem unpack_bits (l : List Nat) (N : Nat) : IsBits (unpack l N) := by
  intro b hb
  obtain ⟨k, _, rfl⟩ := List.mem_map.1 hb
  unfold bitAt; omega
theorem unpack_getD (l : List Nat) (N k : Nat) (h : k < N) : (unpack l N).getD k 0 = bitAt l k := by simp [unpack, h]
/-- Right bits, as numbers. -/
def RightS (l : List Nat) (N : Nat) : Prop := l.length = (N + 7) / 8 ∧ ∀ k, N ≤ k → k < 8 * l.length → bitAt l k = 0
theorem pack_right {bs : List Nat} (h : IsBits bs) : RightS (pack bs) bs.length := by
  refine ⟨pack_length bs, fun k hk _ => ?_⟩
  rw [bitAt_pack h]
  simp [List.getD, List.getElem?_eq_none hk]
theorem byte_bits (x : Nat) (h : x < 256) : x / 128 % 2 * 128 + x / 64 % 2 * 64 + x / 32 % 2 * 32 + x / 16 % 2 * 16 + x / 8 % 2 * 8 + x / 4 % 2 * 4 + x / 2 % 2 * 2 + x / 1 % 2 = x := by omega
theorem pack_unpack {l : List Nat} {N : Nat} (hb : ∀ n ∈ l, n < 256) (h : RightS l N) : pack (unpack l N) = l := by
  obtain ⟨h1, h2⟩ := h
  apply List.ext_getElem
  · rw [pack_length, unpack_length, h1]
  · intro j hj1 hj2
    have e : (pack (unpack l N))[j] = byteOf (unpack l N) j := by simp [pack]
    rw [e]
    have g : ∀ i, i < 8 → (unpack l N).getD (8 * j + i) 0 = l[j] / 2 ^ (7 - i) % 2 := by
      intro i hi
      have hb' : bitAt l (8 * j + i) = l[j] / 2 ^ (7 - i) % 2 := by
        unfold bitAt
        rw [show (8 * j + i) / 8 = j from by omega, show (8 * j + i) % 8 = i from by omega]
        simp [hj2]
      by_cases hN : 8 * j + i < N
      · rw [unpack_getD l N _ hN, hb']
      · rw [← hb', h2 _ (by omega) (by omega)]
        simp [List.getD, List.getElem?_eq_none (by rw [unpack_length]; omega : (unpack l N).length ≤ 8 * j + i)]
    unfold byteOf
    have g0 := g 0 (by omega)
    rw [Nat.add_zero] at g0
    rw [g0, g 1 (by omega), g 2 (by omega), g 3 (by omega), g 4 (by omega), g 5 (by omega), g 6 (by omega), g 7 (by omega)]
    simpa using byte_bits l[j] (hb _ (List.getElem_mem hj2))
theorem unpack_pack {bs : List Nat} (h : IsBits bs) : unpack (pack bs) bs.length = bs := by
  apply List.ext_getElem
  · rw [unpack_length]
  · intro j h1 h2
    have e : (unpack (pack bs) bs.length)[j] = bitAt (pack bs) j := by simp [unpack]
    rw [e, bitAt_pack h]; simp [h2]
theorem getD_snoc_lt (bs : List Nat) (b k : Nat) (h : k < bs.length) : (bs ++ [b]).getD k 0 = bs.getD k 0 := by simp [List.getD, List.getElem?_append_left h]
theorem getD_snoc_eq (bs : List Nat) (b : Nat) : (bs ++ [b]).getD bs.length 0 = b := by simp
theorem getD_snoc_gt (bs : List Nat) (b k : Nat) (h : bs.length < k) : (bs ++ [b]).getD k 0 = bs.getD k 0 := by
  have e1 : (bs ++ [b]).getD k 0 = 0 := by simp [List.getD, List.getElem?_eq_none (by simp; omega : (bs ++ [b]).length ≤ k)]
  have e2 : bs.getD k 0 = 0 := by simp [List.getD, List.getElem?_eq_none (by omega : bs.length ≤ k)]
  rw [e1, e2]
theorem getD_end (bs : List Nat) (k : Nat) (h : bs.length ≤ k) : bs.getD k 0 = 0 := by simp [List.getD, List.getElem?_eq_none h]
theorem byteOf_snoc_other (bs : List Nat) (b j : Nat) (h : j ≠ bs.length / 8) : byteOf (bs ++ [b]) j = byteOf bs j := by
  have g : ∀ i, i < 8 → (bs ++ [b]).getD (8 * j + i) 0 = bs.getD (8 * j + i) 0 := by
    intro i hi
    rcases Nat.lt_trichotomy (8 * j + i) bs.length with h1 | h1 | h1
    · exact getD_snoc_lt bs b _ h1
    · omega
    · exact getD_snoc_gt bs b _ h1
  unfold byteOf
  have g0 := g 0 (by omega)
  rw [Nat.add_zero] at g0
  rw [g0, g 1 (by omega), g 2 (by omega), g 3 (by omega), g 4 (by omega), g 5 (by omega), g 6 (by omega), g 7 (by omega)]
/-- The byte in which a bit is laid. -/
theorem byteOf_snoc_here (bs : List Nat) (b : Nat) : byteOf (bs ++ [b]) (bs.length / 8) = byteOf bs (bs.length / 8) + b * 2 ^ (7 - bs.length % 8) := by
  have g : ∀ i, i < 8 → (bs ++ [b]).getD (8 * (bs.length / 8) + i) 0 = bs.getD (8 * (bs.length / 8) + i) 0 + if bs.length % 8 = i then b else 0 := by
    intro i hi
    rcases Nat.lt_trichotomy (8 * (bs.length / 8) + i) bs.length with h1 | h1 | h1
    · rw [getD_snoc_lt bs b _ h1, if_neg (by omega)]; rfl
    · rw [if_pos (by omega), h1, getD_snoc_eq, getD_end bs _ (Nat.le_refl _)]; omega
    · rw [getD_snoc_gt bs b _ h1, if_neg (by omega)]; rfl
  have g0 := g 0 (by omega)
  rw [Nat.add_zero] at g0
  unfold byteOf
  rw [g0, g 1 (by omega), g 2 (by omega), g 3 (by omega), g 4 (by omega), g 5 (by omega), g 6 (by omega), g 7 (by omega)]
  clear g g0
  have hr : bs.length % 8 = 0 ∨ bs.length % 8 = 1 ∨ bs.length % 8 = 2 ∨ bs.length % 8 = 3 ∨ bs.length % 8 = 4 ∨ bs.length % 8 = 5 ∨ bs.length % 8 = 6 ∨ bs.length % 8 = 7 := by omega
  generalize bs.length % 8 = r at *
  generalize 8 * (bs.length / 8) = q at *
  generalize bs.getD q 0 = x0 at *
  generalize bs.getD (q + 1) 0 = x1 at *
  generalize bs.getD (q + 2) 0 = x2 at *
  generalize bs.getD (q + 3) 0 = x3 at *
  generalize bs.getD (q + 4) 0 = x4 at *
  generalize bs.getD (q + 5) 0 = x5 at *
  generalize bs.getD (q + 6) 0 = x6 at *
  generalize bs.getD (q + 7) 0 = x7 at *
  rcases hr with rfl | rfl | rfl | rfl | rfl | rfl | rfl | rfl <;> simp <;> omega
theorem byteOf_end (bs : List Nat) (j : Nat) (h : bs.length ≤ 8 * j) : byteOf bs j = 0 := by
  unfold byteOf
  rw [getD_end bs _ h, getD_end bs _ (by omega), getD_end bs _ (by omega), getD_end bs _ (by omega), getD_end bs _ (by omega), getD_end bs _ (by omega), getD_end bs _ (by omega), getD_end bs _ (by omega)]
/-- A bit laid behind bits that end within a byte. -/
theorem pack_snoc_within (bs : List Nat) (b : Nat) (h : bs.length % 8 ≠ 0) : pack (bs ++ [b]) = (pack bs).set (bs.length / 8) (byteOf bs (bs.length / 8) + b * 2 ^ (7 - bs.length % 8)) := by
  apply List.ext_getElem
  · rw [List.length_set, pack_length, pack_length, List.length_append, List.length_singleton]; omega
  · intro j h1 h2
    rw [List.getElem_set]
    have e : (pack (bs ++ [b]))[j] = byteOf (bs ++ [b]) j := by simp [pack]
    rw [e]
    by_cases hj : bs.length / 8 = j
    · rw [if_pos hj, ← hj, byteOf_snoc_here]
    · rw [if_neg hj, byteOf_snoc_other bs b j (fun e => hj e.symm)]; simp [pack]
/-- A bit laid behind bits that end with a byte. -/
theorem pack_snoc_new (bs : List Nat) (b : Nat) (h : bs.length % 8 = 0) : pack (bs ++ [b]) = pack bs ++ [b * 128] := by
  apply List.ext_getElem
  · rw [List.length_append, pack_length, pack_length, List.length_append, List.length_singleton, List.length_singleton]; omega
  · intro j h1 h2
    have e : (pack (bs ++ [b]))[j] = byteOf (bs ++ [b]) j := by simp [pack]
    rw [e]
    by_cases hj : j < (pack bs).length
    · rw [List.getElem_append_left hj]
      rw [pack_length] at hj
      rw [byteOf_snoc_other bs b j (by omega)]; simp [pack]
    · rw [List.getElem_append_right (by omega)]
      rw [pack_length] at hj
      rw [List.length_append, pack_length, List.length_singleton] at h2
      have hj2 : j = bs.length / 8 := by omega
      subst hj2
      rw [byteOf_snoc_here, h, byteOf_end bs _ (by omega)]
      simp
theorem pack_nil : pack [] = [] := rfl

/-- A number's value of bits, the highest first. -/
def valOf (bs : List Nat) : Nat := bs.foldl (fun n b => 2 * n + b) 0
theorem valOf_snoc (bs : List Nat) (b : Nat) : valOf (bs ++ [b]) = 2 * valOf bs + b := by simp [valOf]
/-- The lowest wide bits of a number, the highest first. -/
def digs (n wide : Nat) : List Nat := (List.range wide).map fun i => n / 2 ^ (wide - 1 - i) % 2
theorem digs_length (n wide : Nat) : (digs n wide).length = wide := by simp [digs]
theorem digs_bits (n wide : Nat) : IsBits (digs n wide) := by
  intro b hb
  obtain ⟨i, _, rfl⟩ := List.mem_map.1 hb
  omega
theorem digs_zero (n : Nat) : digs n 0 = [] := rfl
theorem digs_snoc (n wide : Nat) : digs n (wide + 1) = digs (n / 2) wide ++ [n % 2] := by
  unfold digs
  rw [List.range_succ, List.map_append]
  congr 1
  · apply List.map_congr_left
    intro i hi
    have hi' := List.mem_range.1 hi
    rw [show wide + 1 - 1 - i = (wide - 1 - i) + 1 from by omega, Nat.pow_succ, Nat.mul_comm, ← Nat.div_div_eq_div_mul]
  · simp
theorem valOf_digs : ∀ (wide n : Nat), n < 2 ^ wide → valOf (digs n wide) = n
  | 0, n, h => by simp at h; subst h; rfl
  | wide + 1, n, h => by
    rw [digs_snoc, valOf_snoc, valOf_digs wide (n / 2) (by rw [Nat.pow_succ] at h; omega)]
    omega
theorem valOf_from (bs : List Nat) : ∀ a, bs.foldl (fun n b => 2 * n + b) a = a * 2 ^ bs.length + valOf bs := by
  induction bs with
  | nil => intro a; simp [valOf]
  | cons b r ih =>
    intro a
    unfold valOf
    rw [List.foldl_cons, List.foldl_cons, ih, ih, List.length_cons, Nat.pow_succ]
    simp only [Nat.add_mul, Nat.mul_comm, Nat.mul_assoc]
    omega
theorem valOf_cons (b : Nat) (r : List Nat) : valOf (b :: r) = b * 2 ^ r.length + valOf r := by
  have := valOf_from r b
  unfold valOf at this ⊢
  rw [List.foldl_cons]
  simpa using this
theorem valOf_append (a b : List Nat) : valOf (a ++ b) = valOf a * 2 ^ b.length + valOf b := by
  have := valOf_from b (valOf a)
  unfold valOf at this ⊢
  rw [List.foldl_append]
  exact this
theorem valOf_lt : ∀ (bs : List Nat), IsBits bs → valOf bs < 2 ^ bs.length
  | [], _ => by simp [valOf]
  | b :: r, h => by
    rw [valOf_cons, List.length_cons, Nat.pow_succ]
    have h1 := valOf_lt r (fun x hx => h x (by simp [hx]))
    have h2 := h b (by simp)
    have h3 : b = 0 ∨ b = 1 := by omega
    rcases h3 with rfl | rfl <;> omega
end Go.Proofs.Ytblipgmllpniaaa
