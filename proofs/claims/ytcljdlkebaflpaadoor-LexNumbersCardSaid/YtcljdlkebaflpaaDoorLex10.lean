/- Where tokens stand; what stands between them. -/
import Derived.Test.YtcljdlkebaflpaaDoorLex9
namespace Go.Proofs.YtcljdlkebaflpaaDoor
open Go.RowKit
set_option linter.unusedVariables false

/-- In a comment behind a byte? -/
def stepC (c : Bool) (x : UInt8) : Bool := if (x.toNat : Int) == 10 then false else if (x.toNat : Int) == 35 then true else c
/-- Blanks and comments alone. -/
def gapOK : Bool → List UInt8 → Prop
  | _, [] => True
  | c, x :: r => (stepC c x = true ∨ isBlank (x.toNat : Int) = true) ∧ gapOK (stepC c x) r
theorem gapOK_append : ∀ (a b : List UInt8) (c : Bool), gapOK c (a ++ b) ↔ gapOK c a ∧ gapOK (a.foldl stepC c) b := by
  intro a
  induction a with
  | nil => intro b c; simp [gapOK]
  | cons x r ih => intro b c; simp [gapOK, ih, and_assoc]
theorem gapOK_run : ∀ (r : List UInt8), (∀ x ∈ r, x.toNat ≠ 10) → gapOK true r ∧ r.foldl stepC true = true := by
  intro r
  induction r with
  | nil => intro _; simp [gapOK]
  | cons x r ih =>
    intro h
    have h1 := h x (by simp)
    have e : stepC true x = true := by
      unfold stepC
      have : ((x.toNat : Int) == 10) = false := by simp; omega
      rw [this]
      simp
    obtain ⟨a, b⟩ := ih fun y hy => h y (by simp [hy])
    exact ⟨⟨.inl e, by rw [e]; exact a⟩, by rw [List.foldl_cons, e]; exact b⟩
theorem gapOK_lf {l : List UInt8} (h : l = [] ∨ ∃ r, l = 10 :: r) (hg : gapOK false l) : gapOK true l := by
  rcases h with rfl | ⟨r, rfl⟩
  · trivial
  · exact hg
theorem takeC_stops (q : Int → Bool) (l : List UInt8) : l.drop (takeC q l).length = [] ∨ ∃ x r, l.drop (takeC q l).length = x :: r ∧ q (x.toNat : Int) = false := by
  unfold takeC
  induction l with
  | nil => simp
  | cons c r ih =>
    rw [List.takeWhile_cons]
    split
    · simpa using ih
    · rename_i h
      exact .inr ⟨c, r, by simp, by simpa using h⟩
theorem take_prefix' {α : Type} {a b : List α} (h : a <+: b) : b.take a.length = a := (List.prefix_iff_eq_take.1 h).symm
theorem signOf_prefix (l : List UInt8) : signOf l <+: l := by
  unfold signOf
  cases h : signL.find? fun s => s.isPrefixOf l with
  | none => simp
  | some t =>
    have := List.find?_some h
    exact List.isPrefixOf_iff_prefix.1 this
theorem takeC_prefix (q : Int → Bool) (l : List UInt8) : takeC q l <+: l := List.takeWhile_prefix _
/-- What an effect says. -/
theorem eff_tok {l : List UInt8} {kd n : Nat} {t : List UInt8} (h : eff l = .tok kd t n) : t <+: l ∧ (kd = 1 ∨ kd = 2 ∨ kd = 3) ∧ (kd ≠ 2 → n = 0) := by
  cases l with
  | nil => cases h
  | cons c r =>
    unfold eff at h
    simp only at h
    split at h
    · cases h
    split at h
    · cases h
    split at h
    · split at h
      · cases h
      · cases h; exact ⟨takeC_prefix _ _, by simp, fun _ => rfl⟩
    split at h
    · split at h
      · cases h
      · cases h; exact ⟨takeC_prefix _ _, by simp, fun h => absurd rfl h⟩
    split at h
    · cases h
    · cases h; exact ⟨signOf_prefix _, by simp, fun _ => rfl⟩
theorem eff_skip {l : List UInt8} {k : Nat} (hl : l ≠ []) (h : eff l = .skip k) : ∀ n, gapOK false ((l.drop k).take n) → gapOK false (l.take (k + n)) := by
  intro n hn
  cases l with
  | nil => exact absurd rfl hl
  | cons c r =>
    unfold eff at h
    simp only at h
    split at h
    · rename_i hb
      cases h
      have e : stepC false c = false := by
        unfold stepC
        simp [isBlank] at hb
        split
        · rfl
        · split
          · rename_i h2
            have h3 := eq_of_beq h2
            omega
          · rfl
      rw [Nat.add_comm 1 n, List.take_succ_cons]
      exact ⟨.inr hb, by rw [e]; simpa using hn⟩
    split at h
    · rename_i hb
      have hc := eq_of_beq hb
      cases h
      rw [List.take_add, gapOK_append, take_prefix' (takeC_prefix _ _)]
      have e : takeC (fun c => c != 10) (c :: r) = c :: takeC (fun c => c != 10) r := by
        unfold takeC
        rw [List.takeWhile_cons, if_pos (by rw [hc]; decide)]
      have e2 : stepC false c = true := by unfold stepC; rw [hc]; decide
      obtain ⟨g1, g2⟩ := gapOK_run (takeC (fun c => c != 10) r) fun x hx => by
        have := mem_takeC hx
        simp at this
        omega
      refine ⟨?_, ?_⟩
      · rw [e]
        exact ⟨.inl e2, by rw [e2]; exact g1⟩
      · rw [e] at hn ⊢
        rw [List.foldl_cons, e2, g2]
        refine gapOK_lf ?_ hn
        rw [← e]
        rcases takeC_stops (fun c => c != 10) (c :: r) with h0 | ⟨x, q, h0, hx⟩
        · rw [h0]; simp
        · rw [h0]
          simp at hx
          have hx2 : x = 10 := UInt8.toNat_inj.1 (by show x.toNat = 10; omega)
          subst hx2
          cases n with
          | zero => simp
          | succ n => exact .inr ⟨q.take n, by simp⟩
    repeat' split at h
    all_goals cases h
/-- The first token, and what stands behind it. -/
theorem place_step : ∀ (l : List UInt8) (p : Nat) (t : Tok) (rest : List Tok), lexG l p = .ok (t :: rest) →
    ∃ a, t.at_ = p + a ∧ gapOK false (l.take a) ∧ a + t.txt.length ≤ l.length ∧ (l.drop a).take t.txt.length = t.txt ∧
      ((rest = [] ∧ t.kd = 4 ∧ t.txt = [] ∧ t.n = 0 ∧ a = l.length) ∨ (rest ≠ [] ∧ t.txt ≠ [] ∧ t.kd ≠ 4 ∧ (t.kd ≠ 2 → t.n = 0) ∧ lexG (l.drop (a + t.txt.length)) (p + a + t.txt.length) = .ok rest)) := by
  refine lex_induct ?_ ?_
  · intro p t rest h
    rw [lexG_nil] at h
    cases h
    exact ⟨0, rfl, trivial, Nat.le_refl _, rfl, .inl ⟨rfl, rfl, rfl, rfl, rfl⟩⟩
  · intro l hl ih p t rest h
    have hp := effLen_pos l
    have hle := effLen_le hl
    rw [lexG_step hl] at h
    cases he : eff l with
    | skip k =>
      rw [he] at h hp hle
      simp only [effLen] at hp hle
      obtain ⟨a, h1, h2, h3, h4, h5⟩ := ih k hp _ _ _ h
      rw [List.length_drop] at h3 h5
      rw [List.drop_drop] at h4 h5
      refine ⟨k + a, by omega, eff_skip hl he a h2, by omega, h4, ?_⟩
      rcases h5 with ⟨q1, q2, q3, q4, q5⟩ | ⟨q1, q2, q3, q4, q5⟩
      · exact .inl ⟨q1, q2, q3, q4, by omega⟩
      · refine .inr ⟨q1, q2, q3, q4, ?_⟩
        rw [show k + a + t.txt.length = k + (a + t.txt.length) by omega, show p + (k + a) + t.txt.length = p + k + a + t.txt.length by omega]
        exact q5
    | tok kd x n =>
      rw [he] at h hp hle
      simp only [effLen] at hp hle
      simp only [] at h
      obtain ⟨e1, e2, e3⟩ := eff_tok he
      cases hx : lexG (l.drop x.length) (p + x.length) with
      | error e => rw [hx] at h; cases h
      | ok r =>
        rw [hx] at h
        cases h
        refine ⟨0, rfl, trivial, by simpa using hle, by simpa using take_prefix' e1, .inr ⟨lexG_ne _ _ _ hx, ?_, ?_, e3, ?_⟩⟩
        · intro h0
          have h0 : x = [] := h0
          rw [h0] at hp
          simp at hp
        · show kd ≠ 4
          omega
        · simpa using hx
    | err e => rw [he] at h; cases h
end Go.Proofs.YtcljdlkebaflpaaDoor
