/- What follows of a text's tokens: two texts with a line feed between them; shifted places. -/
import Derived.Test.YtcljdlkebaflpaaDoorLexHead
namespace Go.Proofs.YtcljdlkebaflpaaDoor
open Go.RowKit
set_option linter.unusedVariables false

/-- The tokens of bytes that stand at a place. -/
def lexG (l : List UInt8) (p : Nat) : Except (Nat × Nat) (List Tok) := lexF l.length l p
theorem lexG_nil (p : Nat) : lexG [] p = .ok [⟨4, [], 0, p⟩] := rfl
theorem lexG_step {l : List UInt8} (h : l ≠ []) (p : Nat) : lexG l p = match eff l with
    | .skip k => lexG (l.drop k) (p + k)
    | .tok kd t n => (lexG (l.drop t.length) (p + t.length)).map fun r => ⟨kd, t, n, p⟩ :: r
    | .err e => .error (e, p) := by
  unfold lexG
  obtain ⟨f, hf⟩ : ∃ f, l.length = f + 1 := ⟨l.length - 1, by have := List.length_pos_iff.2 h; omega⟩
  rw [hf]
  have hp := effLen_pos l
  simp only [lexF, h, if_false]
  cases he : eff l with
  | skip k => rw [he] at hp; simp only [effLen] at hp; exact lexF_fuel _ _ _ _ (by simp; omega) (by simp)
  | tok kd t n => rw [he] at hp; simp only [effLen] at hp; simp only []; rw [lexF_fuel f ((l.drop t.length).length) _ _ (by simp; omega) (by simp)]
  | err e => rfl
/-- Induction over what stands at the beginning. -/
theorem lex_induct {C : List UInt8 → Prop} (nil : C []) (step : ∀ l, l ≠ [] → (∀ k, 1 ≤ k → C (l.drop k)) → C l) : ∀ l, C l := by
  intro l
  induction hn : l.length using Nat.strongRecOn generalizing l with
  | _ n ih =>
    by_cases h : l = []
    · rw [h]; exact nil
    · exact step l h fun k hk => ih _ (by have := List.length_pos_iff.2 h; simp; omega) _ rfl
theorem takeC_lf {q : Int → Bool} (hq : q 10 = false) (a b : List UInt8) : takeC q (a ++ 10 :: b) = takeC q a := by
  unfold takeC
  induction a with
  | nil => simp [hq]
  | cons c r ih =>
    rw [List.cons_append, List.takeWhile_cons, List.takeWhile_cons]
    split
    · rw [ih]
    · rfl
theorem prefix_lf {s a b : List UInt8} (hs : ∀ c ∈ s, c ≠ 10) : s.isPrefixOf (a ++ 10 :: b) = s.isPrefixOf a := by
  induction s generalizing a with
  | nil => simp
  | cons x r ih =>
    cases a with
    | nil =>
      have : x ≠ 10 := hs x (by simp)
      show ((x == 10) && r.isPrefixOf b) = false
      simp [this]
    | cons c a =>
      simp only [List.cons_append, List.isPrefixOf]
      rw [ih (fun c hc => hs c (by simp [hc]))]
theorem signOf_lf (a b : List UInt8) : signOf (a ++ 10 :: b) = signOf a := by
  unfold signOf
  have hs : ∀ s ∈ signL, ∀ c ∈ s, c ≠ 10 := by decide
  have : ∀ L : List (List UInt8), (∀ s ∈ L, ∀ c ∈ s, c ≠ 10) → L.find? (fun s => s.isPrefixOf (a ++ 10 :: b)) = L.find? fun s => s.isPrefixOf a := by
    intro L hL
    induction L with
    | nil => rfl
    | cons s L ih =>
      rw [List.find?_cons, List.find?_cons, prefix_lf (hL s (by simp)), ih (fun t ht => hL t (by simp [ht]))]
  rw [this _ hs]
theorem eff_lf {a : List UInt8} (h : a ≠ []) (b : List UInt8) : eff (a ++ 10 :: b) = eff a := by
  cases a with
  | nil => exact absurd rfl h
  | cons c r =>
    have h1 := takeC_lf (q := fun c => c != 10) (by decide) (c :: r) b
    have h2 := takeC_lf (q := isName) (by decide) (c :: r) b
    have h3 := takeC_lf (q := isDigit) (by decide) (c :: r) b
    have h4 := signOf_lf (c :: r) b
    rw [List.cons_append] at *
    unfold eff
    simp only [h1, h2, h3, h4]
theorem eff_lf0 (b : List UInt8) : eff (10 :: b) = .skip 1 := rfl
/-- Tokens of the first text, and then those of the second one. -/
def joinT (x y : Except (Nat × Nat) (List Tok)) : Except (Nat × Nat) (List Tok) :=
  match x with
  | .error e => .error e
  | .ok ts => y.map (ts.dropLast ++ ·)
theorem lexG_ne : ∀ (l : List UInt8) (p : Nat) (ts : List Tok), lexG l p = .ok ts → ts ≠ [] := by
  refine lex_induct ?_ ?_
  · intro p ts h
    rw [lexG_nil] at h
    cases h
    simp
  · intro l hl ih p ts h
    have hp := effLen_pos l
    rw [lexG_step hl] at h
    cases he : eff l with
    | skip k => rw [he] at h hp; exact ih k hp _ _ h
    | tok kd t n =>
      rw [he] at h
      simp only [] at h
      cases hx : lexG (l.drop t.length) (p + t.length) with
      | error e => rw [hx] at h; cases h
      | ok r => rw [hx] at h; cases h; simp
    | err e => rw [he] at h; cases h
theorem lexG_join : ∀ (a : List UInt8) (b : List UInt8) (p : Nat), lexG (a ++ 10 :: b) p = joinT (lexG a p) (lexG b (p + a.length + 1)) := by
  intro a b
  refine lex_induct (C := fun a => ∀ p, lexG (a ++ 10 :: b) p = joinT (lexG a p) (lexG b (p + a.length + 1))) ?_ ?_ a
  · intro p
    rw [List.nil_append, lexG_step (by simp), eff_lf0, lexG_nil]
    simp only [joinT, List.drop_succ_cons, List.drop_zero, List.length_nil, Nat.add_zero]
    cases lexG b (p + 1) <;> simp [Except.map]
  · intro l hl ih p
    have hp := effLen_pos l
    have hle := effLen_le hl
    rw [lexG_step (by simp), eff_lf hl, lexG_step hl]
    cases he : eff l with
    | skip k =>
      rw [he] at hp hle
      simp only [effLen] at hp hle
      simp only []
      rw [List.drop_append_of_le_length hle, ih k hp]
      congr 2
      simp
      omega
    | tok kd t n =>
      rw [he] at hp hle
      simp only [effLen] at hp hle
      simp only []
      rw [List.drop_append_of_le_length hle, ih t.length hp]
      have e : p + t.length + (l.drop t.length).length + 1 = p + l.length + 1 := by simp; omega
      rw [e]
      cases hx : lexG (l.drop t.length) (p + t.length) with
      | error e => rfl
      | ok r =>
        have hne := lexG_ne _ _ _ hx
        simp only [joinT, Except.map]
        cases lexG b (p + l.length + 1) with
        | error e => rfl
        | ok q => simp [List.dropLast_cons_of_ne_nil hne]
    | err e => rfl
/-- Shifted places. -/
def shiftT (d : Nat) (x : Except (Nat × Nat) (List Tok)) : Except (Nat × Nat) (List Tok) :=
  match x with
  | .error e => .error (e.1, e.2 + d)
  | .ok ts => .ok (ts.map fun t => { t with at_ := t.at_ + d })
theorem lexG_shift (d : Nat) : ∀ (l : List UInt8) (p : Nat), lexG l (p + d) = shiftT d (lexG l p) := by
  refine lex_induct ?_ ?_
  · intro p; rfl
  · intro l hl ih p
    have hp := effLen_pos l
    rw [lexG_step hl, lexG_step hl]
    cases he : eff l with
    | skip k =>
      rw [he] at hp
      simp only []
      rw [← ih k hp]
      congr 1
      omega
    | tok kd t n =>
      rw [he] at hp
      simp only []
      rw [show p + d + t.length = p + t.length + d by omega, ih t.length hp]
      cases lexG (l.drop t.length) (p + t.length) <;> rfl
    | err e => rfl
theorem lexL_small {l : List UInt8} (h : l.length ≤ 65536) : lexL l = lexG l 0 := by
  unfold lexL lexG
  rw [if_neg (by omega)]
/-- LexJoins' law. -/
theorem lexL_join {a b : List UInt8} (h : a.length + b.length + 1 ≤ 65536) : lexL (a ++ 10 :: b) = joinT (lexL a) (shiftT (a.length + 1) (lexL b)) := by
  rw [lexL_small (by simp; omega), lexL_small (by omega), lexL_small (by omega), lexG_join, ← lexG_shift]
  congr 2
end Go.Proofs.YtcljdlkebaflpaaDoor
