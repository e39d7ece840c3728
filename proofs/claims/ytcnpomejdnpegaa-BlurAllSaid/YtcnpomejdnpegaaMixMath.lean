/- The hash's steps can be undone: plain facts of numbers. -/
import Derived.Test.YtcnpomejdnpegaaMixPlaces
namespace Go.Proofs.Ytcnpomejdnpegaa
set_option linter.unusedVariables false

theorem mul_undo (M a b C D : Nat) (ha : a < M) (hb : b < M) (hCD : C * D % M = 1) (h : a * C % M = b * C % M) : a = b := by
  have key : ∀ x, x < M → (x * C % M) * D % M = x := by
    intro x hx
    have e1 : (x * C % M) * D % M = x * (C * D) % M := by
      rw [Nat.mul_mod, Nat.mod_mod, ← Nat.mul_mod, Nat.mul_assoc]
    rw [e1, Nat.mul_mod, hCD, Nat.mul_one, Nat.mod_mod, Nat.mod_eq_of_lt hx]
  rw [← key a ha, h, key b hb]
theorem prime_inv : 1099511628211 * 14886173955864302971 % 18446744073709551616 = 1 := by decide +kernel
theorem spread_inv : 13787848793156543929 * 10871156337175269513 % 18446744073709551616 = 1 := by decide +kernel
theorem mulP_inj (a b : Nat) (ha : a < 18446744073709551616) (hb : b < 18446744073709551616) (h : mulP a = mulP b) : a = b := by
  unfold mulP at h
  exact mul_undo 18446744073709551616 a b 1099511628211 14886173955864302971 ha hb prime_inv h
theorem mulS_inj (a b : Nat) (ha : a < 18446744073709551616) (hb : b < 18446744073709551616) (h : mulS a = mulS b) : a = b := by
  unfold mulS at h
  exact mul_undo 18446744073709551616 a b 13787848793156543929 10871156337175269513 ha hb spread_inv h
theorem shift_undo (s d : Nat) (hd : d = 2 ^ s) (hs : 22 ≤ s) (x y : Nat) (hx : x < 18446744073709551616) (hy : y < 18446744073709551616) (h : x ^^^ x / d = y ^^^ y / d) : x = y := by
  subst hd
  have hbit : ∀ i, (x.testBit i ^^ x.testBit (s + i)) = (y.testBit i ^^ y.testBit (s + i)) := by
    intro i
    have := congrArg (fun n => n.testBit i) h
    simpa [Nat.testBit_xor, Nat.testBit_div_two_pow, Nat.add_comm] using this
  have hx64 : x < 2 ^ 64 := by omega
  have hy64 : y < 2 ^ 64 := by omega
  have top : ∀ i, 64 ≤ i → x.testBit i = y.testBit i := by
    intro i hi
    rw [Nat.testBit_lt_two_pow (Nat.lt_of_lt_of_le hx64 (Nat.pow_le_pow_right (by omega) hi)), Nat.testBit_lt_two_pow (Nat.lt_of_lt_of_le hy64 (Nat.pow_le_pow_right (by omega) hi))]
  have down : ∀ n i, 64 ≤ i + n → (x.testBit i = y.testBit i) := by
    intro n
    induction n using Nat.strongRecOn with
    | ind n ih =>
      intro i hi
      by_cases h0 : 64 ≤ i
      · exact top i h0
      · have h1 : x.testBit (s + i) = y.testBit (s + i) := by
          by_cases h2 : 64 ≤ s + i
          · exact top _ h2
          · exact ih (n - s) (by omega) (s + i) (by omega)
        have := hbit i
        rw [h1] at this
        revert this
        cases x.testBit i <;> cases y.testBit i <;> cases y.testBit (s + i) <;> simp
  exact Nat.eq_of_testBit_eq fun i => down 64 i (by omega)
theorem xs29_inj (a b : Nat) (ha : a < 18446744073709551616) (hb : b < 18446744073709551616) (h : xs29 a = xs29 b) : a = b := by
  unfold xs29 at h
  exact shift_undo 29 536870912 (by decide +kernel) (by omega) a b ha hb h
theorem xs32_inj (a b : Nat) (ha : a < 18446744073709551616) (hb : b < 18446744073709551616) (h : xs32 a = xs32 b) : a = b := by
  unfold xs32 at h
  exact shift_undo 32 4294967296 (by decide +kernel) (by omega) a b ha hb h
theorem mixS_inj (a b : Nat) (ha : a < 18446744073709551616) (hb : b < 18446744073709551616) (h : mixS a = mixS b) : a = b := by
  unfold mixS at h
  exact xs29_inj a b ha hb (mulS_inj _ _ (xs29_lt a ha) (xs29_lt b hb) (xs32_inj _ _ (mulS_lt _) (mulS_lt _) h))
theorem xor_lt64 (a b : Nat) (ha : a < 18446744073709551616) (hb : b < 18446744073709551616) : a ^^^ b < 18446744073709551616 :=
  Nat.xor_lt_two_pow (n := 64) (by omega) (by omega)
theorem xor_left_inj (a x y : Nat) (h : a ^^^ x = a ^^^ y) : x = y := by
  have := congrArg (fun n => a ^^^ n) h
  simpa [← Nat.xor_assoc] using this
theorem xor_right_inj (a b x : Nat) (h : a ^^^ x = b ^^^ x) : a = b := by
  have := congrArg (fun n => n ^^^ x) h
  simpa [Nat.xor_assoc] using this
theorem stepH_inj_l (h g x : Nat) (hh : h < 18446744073709551616) (hg : g < 18446744073709551616) (hx : x < 256) (e : stepH h x = stepH g x) : h = g := by
  unfold stepH at e
  have a1 := xor_lt64 h x hh (by omega)
  have a2 := xor_lt64 g x hg (by omega)
  refine xor_right_inj _ _ x ?_
  generalize h ^^^ x = A at *
  generalize g ^^^ x = B at *
  exact mulP_inj A B a1 a2 e
theorem stepH_inj_r (h x y : Nat) (hh : h < 18446744073709551616) (hx : x < 256) (hy : y < 256) (e : stepH h x = stepH h y) : x = y := by
  unfold stepH at e
  have a1 := xor_lt64 h x hh (by omega)
  have a2 := xor_lt64 h y hh (by omega)
  refine xor_left_inj h _ _ ?_
  generalize h ^^^ x = A at *
  generalize h ^^^ y = B at *
  exact mulP_inj A B a1 a2 e
theorem foldH_inj : ∀ (l : List Nat) (h g : Nat), h < 18446744073709551616 → g < 18446744073709551616 → (∀ n ∈ l, n < 256) → foldH h l = foldH g l → h = g
  | [], h, g, _, _, _, e => by rw [foldH_nil, foldH_nil] at e; exact e
  | x :: r, h, g, hh, hg, hb, e => by
    rw [foldH_cons, foldH_cons] at e
    exact stepH_inj_l h g x hh hg (hb x (by simp)) (foldH_inj r _ _ (stepH_lt h x) (stepH_lt g x) (fun n hn => hb n (by simp [hn])) e)
theorem hashS_seed (l : List Nat) (s t : Nat) (hs : s < 18446744073709551616) (ht : t < 18446744073709551616) (hb : ∀ n ∈ l, n < 256) : hashS l s = hashS l t ↔ s = t := by
  constructor
  · intro h
    unfold hashS at h
    have a1 := start_lt s hs
    have a2 := start_lt t ht
    refine xor_right_inj _ _ 11400714819323198485 ?_
    generalize s ^^^ 11400714819323198485 = A at *
    generalize t ^^^ 11400714819323198485 = B at *
    exact foldH_inj l A B a1 a2 hb (mixS_inj _ _ (foldH_lt l A a1) (foldH_lt l B a2) h)
  · intro h; rw [h]
theorem hashS_last (l : List Nat) (s x y : Nat) (hs : s < 18446744073709551616) (hx : x < 256) (hy : y < 256) : hashS (l ++ [x]) s = hashS (l ++ [y]) s ↔ x = y := by
  constructor
  · intro h
    unfold hashS at h
    have a1 := start_lt s hs
    generalize s ^^^ 11400714819323198485 = A at *
    rw [foldH_snoc, foldH_snoc] at h
    have a2 := foldH_lt l A a1
    generalize foldH A l = F at *
    exact stepH_inj_r F x y a2 hx hy (mixS_inj _ _ (stepH_lt _ _) (stepH_lt _ _) h)
  · intro h; rw [h]
end Go.Proofs.Ytcnpomejdnpegaa
