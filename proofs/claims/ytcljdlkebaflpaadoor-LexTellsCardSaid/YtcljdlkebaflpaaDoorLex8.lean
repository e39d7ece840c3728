/- Comments; the last token. -/
import Derived.Test.YtcljdlkebaflpaaDoorLex7
namespace Go.Proofs.YtcljdlkebaflpaaDoor
open Go.RowKit
set_option linter.unusedVariables false

theorem lexG_last : ∀ (l : List UInt8) (p : Nat) (ts : List Tok), lexG l p = .ok ts → ts = ts.dropLast ++ [⟨4, [], 0, p + l.length⟩] := by
  refine lex_induct ?_ ?_
  · intro p ts h
    rw [lexG_nil] at h
    cases h
    rfl
  · intro l hl ih p ts h
    have hp := effLen_pos l
    have hle := effLen_le hl
    rw [lexG_step hl] at h
    cases he : eff l with
    | skip k =>
      rw [he] at h hp hle
      simp only [effLen] at hp hle
      have := ih k hp _ _ h
      rwa [show p + k + (l.drop k).length = p + l.length by simp; omega] at this
    | tok kd t n =>
      rw [he] at h hp hle
      simp only [effLen] at hp hle
      simp only [] at h
      cases hx : lexG (l.drop t.length) (p + t.length) with
      | error e => rw [hx] at h; cases h
      | ok r =>
        rw [hx] at h
        cases h
        have h1 := ih _ hp _ _ hx
        rw [show p + t.length + (l.drop t.length).length = p + l.length by simp; omega] at h1
        rw [List.dropLast_cons_of_ne_nil (lexG_ne _ _ _ hx), List.cons_append, ← h1]
    | err e => rw [he] at h; cases h
theorem lexL_last {l : List UInt8} {ts : List Tok} (h : lexL l = .ok ts) : ts = ts.dropLast ++ [⟨4, [], 0, l.length⟩] := by
  unfold lexL at h
  split at h
  · cases h
  · have := lexG_last l 0 ts h
    rwa [Nat.zero_add] at this
theorem takeC_all {q : Int → Bool} {l : List UInt8} (h : ∀ c ∈ l, q (c.toNat : Int) = true) : takeC q l = l := by
  unfold takeC
  induction l with
  | nil => rfl
  | cons c r ih =>
    rw [List.takeWhile_cons, if_pos (h c (by simp)), ih (fun x hx => h x (by simp [hx]))]
theorem lexG_comment {k : List UInt8} (h : ∀ c ∈ k, c ≠ 10) (p : Nat) : lexG (35 :: k) p = .ok [⟨4, [], 0, p + k.length + 1⟩] := by
  have ht : takeC (fun c => c != 10) (35 :: k) = 35 :: k := takeC_all (by
    intro c hc
    rcases List.mem_cons.1 hc with rfl | hc
    · decide
    · have := h c hc
      have h2 : c.toNat ≠ 10 := fun e => this (UInt8.toNat_inj.1 e)
      simp
      omega)
  have he : eff (35 :: k) = .skip (k.length + 1) := by
    show Eff.skip (takeC (fun c => c != 10) (35 :: k)).length = _
    rw [ht]
    rfl
  rw [lexG_step (by simp), he]
  simp only [List.drop_succ_cons, List.drop_length]
  rw [lexG_nil]
  rfl
theorem lexL_before {k l : List UInt8} (h : ∀ c ∈ k, c ≠ 10) (hs : k.length + l.length + 2 ≤ 65536) : lexL (35 :: k ++ 10 :: l) = shiftT (k.length + 2) (lexL l) := by
  rw [lexL_join (by simp; omega), lexL_small (l := 35 :: k) (by simp; omega), lexG_comment h]
  simp only [joinT, List.length_cons]
  cases lexL l with
  | error e => rfl
  | ok ts => simp [shiftT, Except.map]
theorem lexL_behind {k l : List UInt8} (h : ∀ c ∈ k, c ≠ 10) (hs : k.length + l.length + 2 ≤ 65536) :
    lexL (l ++ 10 :: 35 :: k) = match lexL l with | .error e => .error e | .ok ts => .ok (ts.dropLast ++ [⟨4, [], 0, l.length + k.length + 2⟩]) := by
  rw [lexL_join (by simp; omega), lexL_small (l := 35 :: k) (by simp; omega), lexG_comment h]
  cases lexL l with
  | error e => rfl
  | ok ts =>
    simp only [joinT, shiftT, Except.map, List.map_cons, List.map_nil]
    rw [show 0 + k.length + 1 + (l.length + 1) = l.length + k.length + 2 by omega]
end Go.Proofs.YtcljdlkebaflpaaDoor
