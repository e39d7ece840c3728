/- Vectors as bits: plain facts. -/
import Derived.Test.YtblipgmllpniaaaSchema9
import Derived.Test.YtblipgmllpniaaaBitsPure
import Derived.Laws.MathBits
import Derived.Lib.ItoaNum
namespace Go.Proofs.Ytblipgmllpniaaa
open Go.RowKit
set_option linter.unusedVariables false

/-- The bits of the first numbers of a vector. -/
def encTo (fs : List (Int × Int)) (vs : List Int) : Nat → List Nat
  | 0 => []
  | j + 1 => encTo fs vs j ++ digs (vs.getD j 0 - (fs.getD j (0, 0)).1).toNat (wideF (fs.getD j (0, 0)))
theorem encTo_bits (fs : List (Int × Int)) (vs : List Int) : ∀ j, IsBits (encTo fs vs j)
  | 0 => IsBits.nil
  | j + 1 => (encTo_bits fs vs j).append (digs_bits _ _)
theorem encTo_length (fs : List (Int × Int)) (vs : List Int) : ∀ j, j ≤ fs.length → (encTo fs vs j).length = bitsF (fs.take j)
  | 0, _ => by simp [encTo, bitsF]
  | j + 1, h => by
    have ih := encTo_length fs vs j (by omega)
    rw [bitsF_step fs j (by omega), encTo, List.length_append, digs_length, ih]
/-- Noughts behind bits. -/
def padTo (bs : List Nat) (n : Nat) : List Nat := bs ++ List.replicate (8 * n - bs.length) 0
theorem zeros_bits (k : Nat) : IsBits (List.replicate k 0) := by
  intro b hb
  have := List.eq_of_mem_replicate hb
  omega
theorem padTo_bits {bs : List Nat} (h : IsBits bs) (n : Nat) : IsBits (padTo bs n) := h.append (zeros_bits _)
theorem padTo_length (bs : List Nat) (n : Nat) (h : bs.length ≤ 8 * n) : (padTo bs n).length = 8 * n := by simp [padTo]; omega
theorem padTo_getD (bs : List Nat) (n k : Nat) : (padTo bs n).getD k 0 = bs.getD k 0 := by
  unfold padTo
  by_cases h : k < bs.length
  · simp [List.getD, List.getElem?_append_left h]
  · rw [getD_end bs k (by omega)]
    by_cases h2 : k < bs.length + (8 * n - bs.length)
    · rw [List.getD_eq_getElem?_getD, List.getElem?_append_right (by omega), List.getElem?_replicate]
      split <;> rfl
    · exact getD_end _ _ (by simp; omega)
theorem pack_padTo (bs : List Nat) (n : Nat) (h : bs.length ≤ 8 * n) : pack (padTo bs n) = pack bs ++ List.replicate (n - (bs.length + 7) / 8) 0 := by
  apply List.ext_getElem
  · rw [pack_length, padTo_length bs n h, List.length_append, pack_length, List.length_replicate]; omega
  · intro j h1 h2
    have e : (pack (padTo bs n))[j] = byteOf (padTo bs n) j := by simp [pack]
    have e2 : byteOf (padTo bs n) j = byteOf bs j := by unfold byteOf; simp only [padTo_getD]
    rw [e, e2]
    by_cases hj : j < (pack bs).length
    · rw [List.getElem_append_left hj]; simp [pack]
    · rw [List.getElem_append_right (by omega), List.getElem_replicate]
      rw [pack_length] at hj
      exact byteOf_end bs j (by omega)
theorem bytesF_bits (fs : List (Int × Int)) : bitsF fs ≤ 8 * bytesF fs := by
  unfold bytesF; split <;> omega
theorem bytesF_pos (fs : List (Int × Int)) : 1 ≤ bytesF fs := by
  unfold bytesF; split <;> omega
/-- A vector's bits, and noughts up to a byte's end. -/
def encBits (fs : List (Int × Int)) (vs : List Int) : List Nat := padTo (encTo fs vs fs.length) (bytesF fs)
/-- A vector's bytes. -/
def encS (fs : List (Int × Int)) (vs : List Int) : List Nat := pack (encBits fs vs)
theorem encTo_all (fs : List (Int × Int)) (vs : List Int) : (encTo fs vs fs.length).length = bitsF fs := by
  rw [encTo_length fs vs _ (Nat.le_refl _), List.take_length]
theorem encBits_bits (fs : List (Int × Int)) (vs : List Int) : IsBits (encBits fs vs) := padTo_bits (encTo_bits _ _ _) _
theorem encBits_length (fs : List (Int × Int)) (vs : List Int) : (encBits fs vs).length = 8 * bytesF fs :=
  padTo_length _ _ (by rw [encTo_all]; exact bytesF_bits fs)
theorem encS_length (fs : List (Int × Int)) (vs : List Int) : (encS fs vs).length = bytesF fs := by
  unfold encS; rw [pack_length, encBits_length]; omega
theorem encS_lt (fs : List (Int × Int)) (vs : List Int) : ∀ n ∈ encS fs vs, n < 256 := pack_lt (encBits_bits fs vs)
theorem encS_eq (fs : List (Int × Int)) (vs : List Int) : encS fs vs = pack (encTo fs vs fs.length) ++ List.replicate (bytesF fs - (bitsF fs + 7) / 8) 0 := by
  unfold encS encBits
  rw [pack_padTo _ _ (by rw [encTo_all]; exact bytesF_bits fs), encTo_all]
/-- The bits of bytes. -/
def bitsOf (b : List Nat) : List Nat := unpack b (8 * b.length)
theorem bitsOf_bits (b : List Nat) : IsBits (bitsOf b) := unpack_bits _ _
theorem bitsOf_length (b : List Nat) : (bitsOf b).length = 8 * b.length := unpack_length _ _
theorem right_whole8 (b : List Nat) : RightS b (8 * b.length) := ⟨by omega, fun k h1 h2 => by omega⟩
theorem pack_bitsOf {b : List Nat} (hb : ∀ n ∈ b, n < 256) : pack (bitsOf b) = b := pack_unpack hb (right_whole8 b)
/-- The number that stands at a place. -/
def decAt (fs : List (Int × Int)) (b : List Nat) (i : Nat) : Int := (fs.getD i (0, 0)).1 + (valOf (cutBits (bitsOf b) (bitsF (fs.take i)) (wideF (fs.getD i (0, 0)))) : Nat)
/-- The first numbers that bytes may be of. -/
def decTo (fs : List (Int × Int)) (b : List Nat) (j : Nat) : List Int := (List.range j).map (decAt fs b)
theorem decTo_length (fs : List (Int × Int)) (b : List Nat) (j : Nat) : (decTo fs b j).length = j := by simp [decTo]
theorem decTo_getD (fs : List (Int × Int)) (b : List Nat) (j i : Nat) (h : i < j) : (decTo fs b j).getD i 0 = decAt fs b i := by simp [decTo, h]
theorem decTo_snoc (fs : List (Int × Int)) (b : List Nat) (j : Nat) : decTo fs b (j + 1) = decTo fs b j ++ [decAt fs b j] := by simp [decTo, List.range_succ]
/-- What is left behind a vector's bits. -/
def restS (fs : List (Int × Int)) (b : List Nat) : Nat := valOf (cutBits (bitsOf b) (bitsF fs) (8 * b.length - bitsF fs))
/-- Are bytes a vector's? -/
def IsEnc (fs : List (Int × Int)) (b : List Nat) : Prop := b.length = bytesF fs ∧ restS fs b = 0 ∧ AllIn fs (decTo fs b fs.length)
instance (fs : List (Int × Int)) (b : List Nat) : Decidable (IsEnc fs b) := by unfold IsEnc; infer_instance
theorem digs_valOf : ∀ (bs : List Nat), IsBits bs → digs (valOf bs) bs.length = bs := by
  intro bs h
  have key : ∀ (n : Nat) (bs : List Nat), bs.length = n → IsBits bs → digs (valOf bs) bs.length = bs := by
    intro n
    induction n with
    | zero => intro bs hl _; obtain rfl := List.eq_nil_of_length_eq_zero hl; rfl
    | succ n ih =>
      intro bs hl hb
      have hne : bs ≠ [] := by intro e; rw [e] at hl; simp at hl
      obtain ⟨r, x, rfl⟩ : ∃ r x, bs = r ++ [x] := ⟨bs.dropLast, bs.getLast hne, (List.dropLast_concat_getLast hne).symm⟩
      rw [List.length_append, List.length_singleton] at hl ⊢
      have hx : x < 2 := hb x (by simp)
      have hr : IsBits r := fun y hy => hb y (by simp [hy])
      rw [digs_snoc, valOf_snoc, show (2 * valOf r + x) / 2 = valOf r from by omega, ih r (by omega) hr, show (2 * valOf r + x) % 2 = x from by omega]
  exact key _ bs rfl h
theorem cutBits_bits {bs : List Nat} (h : IsBits bs) (i k : Nat) : IsBits (cutBits bs i k) := fun x hx => h x (List.mem_of_mem_drop (List.mem_of_mem_take hx))
theorem take_cut (bs : List Nat) (i k : Nat) : bs.take (i + k) = bs.take i ++ cutBits bs i k := by unfold cutBits; rw [List.take_add]
theorem valOf_zero : ∀ (bs : List Nat), IsBits bs → (valOf bs = 0 ↔ bs = List.replicate bs.length 0) := by
  intro bs h
  constructor
  · intro e
    have := digs_valOf bs h
    rw [e] at this
    rw [← this]
    simp [digs, List.eq_replicate_iff]
  · intro e
    rw [e]
    generalize bs.length = n
    induction n with
    | zero => rfl
    | succ n ih => rw [List.replicate_succ', valOf_snoc, ih]
/-- What is decoded is encoded as the bits ahead. -/
theorem encTo_dec (fs : List (Int × Int)) (b : List Nat) (hb : 8 * b.length ≥ bitsF fs) : ∀ j, j ≤ fs.length → bitsF (fs.take j) ≤ 8 * b.length → encTo fs (decTo fs b fs.length) j = (bitsOf b).take (bitsF (fs.take j))
  | 0, _, _ => by simp [encTo, bitsF]
  | j + 1, h, hle => by
    rw [bitsF_step fs j (by omega)] at hle ⊢
    rw [encTo, encTo_dec fs b hb j (by omega) (by omega), take_cut, decTo_getD _ _ _ _ (by omega)]
    unfold decAt
    rw [show (fs.getD j (0, 0)).1 + ((valOf (cutBits (bitsOf b) (bitsF (fs.take j)) (wideF (fs.getD j (0, 0)))) : Nat) : Int) - (fs.getD j (0, 0)).1 = ((valOf (cutBits (bitsOf b) (bitsF (fs.take j)) (wideF (fs.getD j (0, 0)))) : Nat) : Int) from by omega, Int.toNat_natCast]
    have hl := cutBits_length (bitsOf b) (bitsF (fs.take j)) (wideF (fs.getD j (0, 0))) (by rw [bitsOf_length]; omega)
    have := digs_valOf _ (cutBits_bits (bitsOf_bits b) (bitsF (fs.take j)) (wideF (fs.getD j (0, 0))))
    rw [hl] at this
    rw [this]
theorem encS_dec (fs : List (Int × Int)) (b : List Nat) (hb : ∀ n ∈ b, n < 256) (hl : b.length = bytesF fs) : encS fs (decTo fs b fs.length) = b ↔ restS fs b = 0 := by
  have hle : bitsF fs ≤ 8 * b.length := by rw [hl]; exact bytesF_bits fs
  have h1 := encTo_dec fs b hle fs.length (Nat.le_refl _) (by rw [List.take_length]; exact hle)
  rw [List.take_length] at h1
  have h2 : encBits fs (decTo fs b fs.length) = (bitsOf b).take (bitsF fs) ++ List.replicate (8 * b.length - bitsF fs) 0 := by
    unfold encBits padTo
    rw [h1, List.length_take, bitsOf_length, Nat.min_eq_left hle, ← hl]
  have h3 : bitsOf b = (bitsOf b).take (bitsF fs) ++ cutBits (bitsOf b) (bitsF fs) (8 * b.length - bitsF fs) := by
    rw [← take_cut, show bitsF fs + (8 * b.length - bitsF fs) = (bitsOf b).length from by rw [bitsOf_length]; omega, List.take_length]
  have hc := cutBits_bits (bitsOf_bits b) (bitsF fs) (8 * b.length - bitsF fs)
  have hcl := cutBits_length (bitsOf b) (bitsF fs) (8 * b.length - bitsF fs) (by rw [bitsOf_length]; omega)
  have hz := valOf_zero _ hc
  rw [hcl] at hz
  unfold restS
  rw [hz]
  constructor
  · intro e
    have e1 : bitsOf (encS fs (decTo fs b fs.length)) = encBits fs (decTo fs b fs.length) := by
      unfold bitsOf encS
      rw [pack_length, encBits_length, show 8 * ((8 * bytesF fs + 7) / 8) = (encBits fs (decTo fs b fs.length)).length from by rw [encBits_length]; omega]
      exact unpack_pack (encBits_bits _ _)
    rw [e, h2] at e1
    exact List.append_inj_right (h3.symm.trans e1) rfl
  · intro e
    unfold encS
    rw [h2, ← e, ← h3]
    exact pack_bitsOf hb
theorem bitsOf_encS (fs : List (Int × Int)) (vs : List Int) : bitsOf (encS fs vs) = encBits fs vs := by
  unfold bitsOf encS
  rw [pack_length, encBits_length, show 8 * ((8 * bytesF fs + 7) / 8) = (encBits fs vs).length from by rw [encBits_length]; omega]
  exact unpack_pack (encBits_bits _ _)
theorem bitLen_lt2 (n : Nat) (h : n < 18446744073709551616) : n < 2 ^ Lib.bitLen n := by
  by_cases h0 : n = 0
  · subst h0; decide +kernel
  · have hb := Lib.bitLenAux_bounds 64 n (by simpa using h) (by omega)
    exact hb.2.2
theorem bitLen_mono_lt (n m : Nat) (h : n ≤ m) (hm : m < 18446744073709551616) : n < 2 ^ Lib.bitLen m := Nat.lt_of_le_of_lt h (bitLen_lt2 m hm)
theorem has_width {f : Int × Int} {n : Int} (hr : RightF f) (h : hasF f n = true) : (n - f.1).toNat < 2 ^ wideF f := by
  unfold hasF at h
  rw [decide_eq_true_iff] at h
  obtain ⟨r1, r2, r3, r4⟩ := hr
  unfold wideF
  exact bitLen_mono_lt _ _ (by omega) (by omega)
theorem encTo_take (fs : List (Int × Int)) (vs : List Int) : ∀ k j, j ≤ k → k ≤ fs.length → (encTo fs vs k).take (bitsF (fs.take j)) = encTo fs vs j
  | 0, j, h, _ => by
    obtain rfl : j = 0 := by omega
    simp [encTo]
  | k + 1, j, h, hk => by
    by_cases e : j = k + 1
    · subst e
      rw [← encTo_length fs vs _ hk, List.take_length]
    · have ih := encTo_take fs vs k j (by omega) (by omega)
      have hl := encTo_length fs vs k (by omega)
      have hj := encTo_length fs vs j (by omega)
      rw [← ih, encTo, List.take_append_of_le_length]
      · rw [hl, ← hj, ← ih, List.length_take]; omega
theorem cut_enc (fs : List (Int × Int)) (vs : List Int) (j : Nat) (hj : j < fs.length) :
    cutBits (encBits fs vs) (bitsF (fs.take j)) (wideF (fs.getD j (0, 0))) = digs (vs.getD j 0 - (fs.getD j (0, 0)).1).toNat (wideF (fs.getD j (0, 0))) := by
  have h1 := encTo_take fs vs fs.length (j + 1) (by omega) (Nat.le_refl _)
  have hl := encTo_length fs vs j (by omega)
  have hl1 := encTo_length fs vs (j + 1) (by omega)
  rw [bitsF_step fs j hj] at h1 hl1
  have h2 : (encBits fs vs).take (bitsF (fs.take j) + wideF (fs.getD j (0, 0))) = encTo fs vs j ++ digs (vs.getD j 0 - (fs.getD j (0, 0)).1).toNat (wideF (fs.getD j (0, 0))) := by
    unfold encBits padTo
    rw [List.take_append_of_le_length, h1, encTo]
    have := congrArg List.length h1
    rw [hl1, List.length_take] at this
    omega
  rw [take_cut] at h2
  have hle : bitsF (fs.take j) ≤ (encBits fs vs).length := by
    have := congrArg List.length h2
    rw [List.length_append, List.length_append, digs_length, hl, List.length_take] at this
    unfold cutBits at this
    rw [List.length_take, List.length_drop] at this
    omega
  exact List.append_inj_right h2 (by rw [List.length_take, hl]; omega)
/-- A vector that is encoded is decoded as it was. -/
theorem dec_enc (fs : List (Int × Int)) (vs : List Int) (hr : ∀ f ∈ fs, RightF f) (hl : vs.length = fs.length) (h : AllIn fs vs) : decTo fs (encS fs vs) fs.length = vs := by
  apply List.ext_getElem
  · rw [decTo_length, hl]
  · intro j h1 h2
    rw [decTo_length] at h1
    have e : (decTo fs (encS fs vs) fs.length)[j] = decAt fs (encS fs vs) j := by simp [decTo]
    have ev : vs.getD j 0 = vs[j] := by simp [h2]
    have hj := h j h1
    rw [e]
    unfold decAt
    rw [bitsOf_encS, cut_enc fs vs j h1, valOf_digs _ _ (has_width (hr _ (getD_mem h1)) hj), ← ev]
    unfold hasF at hj
    rw [decide_eq_true_iff] at hj
    omega
theorem isEnc_enc (fs : List (Int × Int)) (vs : List Int) (hr : ∀ f ∈ fs, RightF f) (hl : vs.length = fs.length) (h : AllIn fs vs) : IsEnc fs (encS fs vs) := by
  have hd := dec_enc fs vs hr hl h
  exact ⟨encS_length fs vs, (encS_dec fs _ (encS_lt fs vs) (encS_length fs vs)).1 (by rw [hd]), by rw [hd]; exact h⟩
theorem enc_isEnc {fs : List (Int × Int)} {b : List Nat} (hb : ∀ n ∈ b, n < 256) (h : IsEnc fs b) : encS fs (decTo fs b fs.length) = b := (encS_dec fs b hb h.1).2 h.2.1
/-- Two vectors of the same bytes are the same. -/
theorem encS_inj (fs : List (Int × Int)) (vs ws : List Int) (hr : ∀ f ∈ fs, RightF f) (h1 : vs.length = fs.length) (h2 : ws.length = fs.length) (i1 : AllIn fs vs) (i2 : AllIn fs ws) (h : encS fs vs = encS fs ws) : vs = ws := by
  rw [← dec_enc fs vs hr h1 i1, ← dec_enc fs ws hr h2 i2, h]
end Go.Proofs.Ytblipgmllpniaaa
