/- Tokens' texts with blanks or comments between each two. -/
import Derived.Test.YtcljdlkebaflpaaDoorLex10
namespace Go.Proofs.YtcljdlkebaflpaaDoor
open Go.RowKit
set_option linter.unusedVariables false

/-- A byte that stands in no name, no number and no sign. -/
def noPart (x : UInt8) : Bool := x == 32 || x == 9 || x == 10 || x == 13 || x == 35
theorem noPart_name {x : UInt8} (h : noPart x = true) : isName (x.toNat : Int) = false ∧ isDigit (x.toNat : Int) = false := by
  unfold noPart at h
  simp only [Bool.or_eq_true, beq_iff_eq, or_assoc] at h
  rcases h with rfl | rfl | rfl | rfl | rfl <;> decide
theorem takeC_at {q : Int → Bool} {x : UInt8} (hq : q (x.toNat : Int) = false) (a b : List UInt8) : takeC q (a ++ x :: b) = takeC q a := by
  unfold takeC
  induction a with
  | nil => simp [hq]
  | cons c r ih =>
    rw [List.cons_append, List.takeWhile_cons, List.takeWhile_cons]
    split
    · rw [ih]
    · rfl
theorem prefix_at {s a b : List UInt8} {x : UInt8} (hs : ∀ c ∈ s, c ≠ x) : s.isPrefixOf (a ++ x :: b) = s.isPrefixOf a := by
  induction s generalizing a with
  | nil => simp
  | cons y r ih =>
    cases a with
    | nil =>
      have : y ≠ x := hs y (by simp)
      show ((y == x) && r.isPrefixOf b) = false
      simp [this]
    | cons c a =>
      simp only [List.cons_append, List.isPrefixOf]
      rw [ih (fun c hc => hs c (by simp [hc]))]
theorem sign_noPart : ∀ s ∈ signL, ∀ c ∈ s, noPart c = false := by decide
theorem signOf_at {x : UInt8} (hx : noPart x = true) (a b : List UInt8) : signOf (a ++ x :: b) = signOf a := by
  unfold signOf
  have : ∀ L : List (List UInt8), (∀ s ∈ L, ∀ c ∈ s, noPart c = false) → L.find? (fun s => s.isPrefixOf (a ++ x :: b)) = L.find? fun s => s.isPrefixOf a := by
    intro L hL
    induction L with
    | nil => rfl
    | cons s L ih =>
      have hs : ∀ c ∈ s, c ≠ x := fun c hc e => by
        have := hL s (by simp) c hc
        rw [e, hx] at this
        cases this
      rw [List.find?_cons, List.find?_cons, prefix_at hs, ih (fun t ht => hL t (by simp [ht]))]
  rw [this _ sign_noPart]
theorem signOf_mem {l : List UInt8} (h : signOf l ≠ []) : signOf l ∈ signL := by
  unfold signOf at h ⊢
  cases hf : signL.find? fun s => s.isPrefixOf l with
  | none => rw [hf] at h; exact absurd rfl h
  | some t => exact List.mem_of_find?_eq_some hf
theorem signOf_self : ∀ s ∈ signL, signOf s = s := by decide
theorem sign_head : ∀ s ∈ signL, ∃ c r, s = c :: r ∧ isBlank (c.toNat : Int) = false ∧ ((c.toNat : Int) == 35) = false ∧ isLetter (c.toNat : Int) = false ∧ isDigit (c.toNat : Int) = false := by
  intro s hs
  have h : signL.all (fun s => match s with | [] => false | c :: _ => !isBlank (c.toNat : Int) && !((c.toNat : Int) == 35) && !isLetter (c.toNat : Int) && !isDigit (c.toNat : Int)) = true := by decide
  have := List.all_eq_true.1 h s hs
  cases s with
  | nil => cases this
  | cons c r =>
    simp only [Bool.and_eq_true, Bool.not_eq_true'] at this
    obtain ⟨⟨⟨a, b⟩, d⟩, e⟩ := this
    exact ⟨c, r, rfl, a, b, d, e⟩
theorem takeC_take (q : Int → Bool) (l : List UInt8) : takeC q (takeC q l) = takeC q l := takeC_all fun c hc => mem_takeC hc
/-- A token by itself, and whatever stands behind that is no part of it. -/
theorem eff_keeps {l t : List UInt8} {kd n : Nat} (h : eff l = .tok kd t n) {x : UInt8} (hx : noPart x = true) (b : List UInt8) : eff (t ++ x :: b) = .tok kd t n := by
  obtain ⟨hn, hd⟩ := noPart_name hx
  cases l with
  | nil => cases h
  | cons c r =>
    unfold eff at h
    simp only at h
    split at h
    · cases h
    rename_i q1
    split at h
    · cases h
    rename_i q2
    split at h
    · rename_i q3
      split at h
      · cases h
      · rename_i q4
        cases h
        have e : takeC isName (c :: r) = c :: takeC isName r := by
          unfold takeC
          rw [List.takeWhile_cons, if_pos (by unfold isName; rw [q3]; rfl)]
        have e1 : takeC isName (takeC isName (c :: r) ++ x :: b) = takeC isName (c :: r) := by rw [takeC_at hn, takeC_take]
        rw [e] at e1 q4 ⊢
        rw [List.cons_append] at e1 ⊢
        unfold eff
        simp only [q1, q2, q3, e1, q4, if_true, if_false, Bool.false_eq_true]
    rename_i q3
    split at h
    · rename_i q5
      split at h
      · cases h
      · rename_i q4
        cases h
        have e : takeC isDigit (c :: r) = c :: takeC isDigit r := by
          unfold takeC
          rw [List.takeWhile_cons, if_pos q5]
        have e1 : takeC isDigit (takeC isDigit (c :: r) ++ x :: b) = takeC isDigit (c :: r) := by rw [takeC_at hd, takeC_take]
        rw [e] at e1 q4 ⊢
        rw [List.cons_append] at e1 ⊢
        unfold eff
        simp only [q1, q2, q3, q5, e1, q4, if_true, if_false, Bool.false_eq_true]
    rename_i q5
    split at h
    · cases h
    · rename_i q6
      cases h
      have hm := signOf_mem q6
      obtain ⟨S, hS⟩ : ∃ S, signOf (c :: r) = S := ⟨_, rfl⟩
      rw [hS] at hm ⊢
      obtain ⟨c', r', rfl, p1, p2, p3, p4⟩ := sign_head S hm
      have e1 : signOf (c' :: r' ++ x :: b) = c' :: r' := by rw [signOf_at hx, signOf_self _ hm]
      rw [List.cons_append] at e1 ⊢
      unfold eff
      simp only [p1, p2, p3, p4, e1, if_false, Bool.false_eq_true]
      simp
/-- What separates. -/
structure SepOK (sep : List UInt8) : Prop where
  head : ∃ x r, sep = x :: r ∧ noPart x = true
  over : ∀ (l : List UInt8) (p : Nat), lexG (sep ++ l) p = lexG l (p + sep.length)
theorem sep_one {x : UInt8} (h : isBlank (x.toNat : Int) = true) (hn : noPart x = true) : SepOK [x] := by
  refine ⟨⟨x, [], rfl, hn⟩, fun l p => ?_⟩
  have he : eff (x :: l) = .skip 1 := by unfold eff; simp [h]
  rw [List.singleton_append, lexG_step (by simp), he]
  rfl
theorem sep_comment (k : List UInt8) (hk : ∀ c ∈ k, c.toNat ≠ 10) : SepOK (35 :: k ++ [10]) := by
  refine ⟨⟨35, k ++ [10], rfl, by decide⟩, fun l p => ?_⟩
  have e : 35 :: k ++ [10] ++ l = 35 :: k ++ 10 :: l := by simp
  have ht : takeC (fun c => c != 10) (35 :: k ++ 10 :: l) = 35 :: k := by
    rw [takeC_lf (by decide)]
    refine takeC_all fun c hc => ?_
    rcases List.mem_cons.1 hc with rfl | hc
    · decide
    · have := hk c hc
      simp
      omega
  have he : eff (35 :: k ++ 10 :: l) = .skip (k.length + 1) := by
    show Eff.skip (takeC (fun c => c != 10) (35 :: k ++ 10 :: l)).length = _
    rw [ht]
    rfl
  rw [e, lexG_step (by simp), he]
  simp only []
  have ed : (35 :: k ++ 10 :: l).drop (k.length + 1) = 10 :: l := by simp
  rw [ed, lexG_step (by simp), eff_lf0]
  simp
  congr 1
theorem SepOK.blank {sep : List UInt8} {x : UInt8} (h : SepOK sep) (hb : isBlank (x.toNat : Int) = true) (hn : noPart x = true) : SepOK (x :: sep) := by
  refine ⟨⟨x, sep, rfl, hn⟩, fun l p => ?_⟩
  have he : eff (x :: (sep ++ l)) = .skip 1 := by unfold eff; simp [hb]
  rw [List.cons_append, lexG_step (by simp), he]
  simp only [List.drop_succ_cons, List.drop_zero]
  rw [h.over, List.length_cons]
  congr 1
  omega
/-- Texts, each with what separates behind it. -/
def joinS (sep : List UInt8) (ts : List Tok) : List UInt8 := ts.flatMap fun t => t.txt ++ sep
/-- All but the place. -/
def bare (t : Tok) : Nat × List UInt8 × Nat := (t.kd, t.txt, t.n)
theorem lexG_seps {sep : List UInt8} (hs : SepOK sep) : ∀ (l : List UInt8) (p : Nat) (ts : List Tok), lexG l p = .ok ts → ∀ p', ∃ ts', lexG (joinS sep ts.dropLast) p' = .ok ts' ∧ ts'.map bare = ts.map bare := by
  refine lex_induct ?_ ?_
  · intro p ts h p'
    rw [lexG_nil] at h
    cases h
    exact ⟨_, rfl, rfl⟩
  · intro l hl ih p ts h p'
    have hp := effLen_pos l
    rw [lexG_step hl] at h
    cases he : eff l with
    | skip k => rw [he] at h hp; exact ih k hp _ _ h p'
    | tok kd t n =>
      rw [he] at h hp
      simp only [effLen] at hp
      simp only [] at h
      cases hx : lexG (l.drop t.length) (p + t.length) with
      | error e => rw [hx] at h; cases h
      | ok r =>
        rw [hx] at h
        cases h
        obtain ⟨ts', h1, h2⟩ := ih _ hp _ _ hx (p' + t.length + sep.length)
        refine ⟨⟨kd, t, n, p'⟩ :: ts', ?_, by simp [h2, bare]⟩
        rw [List.dropLast_cons_of_ne_nil (lexG_ne _ _ _ hx)]
        have e : joinS sep (⟨kd, t, n, p⟩ :: r.dropLast) = t ++ (sep ++ joinS sep r.dropLast) := by simp [joinS]
        obtain ⟨x, q, rfl, hn⟩ := hs.head
        have e2 : x :: q ++ joinS (x :: q) r.dropLast = x :: (q ++ joinS (x :: q) r.dropLast) := rfl
        have he2 := eff_keeps he hn (q ++ joinS (x :: q) r.dropLast)
        rw [e, e2, lexG_step (by simp), he2]
        simp only []
        rw [List.drop_left, ← e2, hs.over, h1]
        rfl
    | err e => rw [he] at h; cases h
theorem joinS_length (sep : List UInt8) (ts : List Tok) (h : ∀ t ∈ ts, True) : (joinS sep ts).length = (ts.map fun t => t.txt.length).sum + ts.length * sep.length := by
  induction ts with
  | nil => simp [joinS]
  | cons t r ih =>
    have e : joinS sep (t :: r) = t.txt ++ sep ++ joinS sep r := by simp [joinS]
    rw [e, List.length_append, List.length_append, ih (fun _ _ => trivial)]
    simp [Nat.add_mul]
    omega
theorem lexG_texts : ∀ (l : List UInt8) (p : Nat) (ts : List Tok), lexG l p = .ok ts → (ts.map fun t => t.txt.length).sum ≤ l.length := by
  refine lex_induct ?_ ?_
  · intro p ts h
    rw [lexG_nil] at h
    cases h
    simp
  · intro l hl ih p ts h
    have hp := effLen_pos l
    have hle := effLen_le hl
    rw [lexG_step hl] at h
    cases he : eff l with
    | skip k =>
      rw [he] at h hp
      have := ih k hp _ _ h
      simp at this
      omega
    | tok kd t n =>
      rw [he] at h hp hle
      simp only [effLen] at hp hle
      simp only [] at h
      cases hx : lexG (l.drop t.length) (p + t.length) with
      | error e => rw [hx] at h; cases h
      | ok r =>
        rw [hx] at h
        cases h
        have := ih _ hp _ _ hx
        simp at this ⊢
        omega
    | err e => rw [he] at h; cases h
end Go.Proofs.YtcljdlkebaflpaaDoor
