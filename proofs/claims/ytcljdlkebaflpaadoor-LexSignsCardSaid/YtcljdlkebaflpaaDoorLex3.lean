/- lex.Tokens: a scope with four labels; what a text's tokens are. -/
import Derived.Test.YtcljdlkebaflpaaDoorLex2
import Derived.ScopeJumps
namespace Go.Proofs.YtcljdlkebaflpaaDoor
open Go.RowKit
set_option linter.unusedVariables false

/-- As Q; by a goto to label l: J l. -/
def jumps (J : Nat → Act → World → Prop) (Q : Exit → Act → World → Prop) : Exit → Act → World → Prop
  | .goto l, a, w => J l a w
  | e, a, w => Q e a w
theorem jumps_mono {J J' : Nat → Act → World → Prop} {Q : Exit → Act → World → Prop} (h : ∀ l a w, J l a w → J' l a w) : ∀ e a w, jumps J Q e a w → jumps J' Q e a w := by
  intro e a w hq
  cases e <;> first | exact h _ _ _ hq | exact hq
section
variable {P : Program} {a : Act} {w : World} {Q : Exit → Act → World → Prop}
/-- What a label's rest owes. -/
def Passes (P : Program) (r : Code) (J : Nat → Act → World → Prop) (μ : Nat → Act → World → Nat) (Q : Exit → Act → World → Prop) (l : Nat) : Prop :=
  ∀ a w, J l a w → r.wp P (jumps (fun l' a' w' => J l' a' w' ∧ μ l' a' w' < μ l a w) Q) a w
theorem wp_scope_labels {c : Code} (r : Nat → Code) (J : Nat → Act → World → Prop) (μ : Nat → Act → World → Nat) (hf : ∀ l a w, J l a w → findLabel c l = some (r l))
    (pass : ∀ l, Passes P (r l) J μ Q l) (first : c.wp P (jumps J Q) a w) : (Code.scope c).wp P Q a w := by
  intro b k cs
  have key : ∀ n l a w, μ l a w = n → J l a w → ∃ e a' w', Q e a' w' ∧ Arrives P (lone (b.at a (.code (r l) :: .inScope c :: k)) cs w) b k cs e a' w' := by
    intro n
    induction n using Nat.strongRecOn with
    | _ n ih =>
      intro l a w hn hJ
      obtain ⟨e, a₁, w₁, hq, harr⟩ := pass l a w hJ b (.inScope c :: k) cs
      cases e with
      | normal => exact ⟨.normal, a₁, w₁, hq, Steps.trans harr (.one step_inScope)⟩
      | exit id => exact ⟨.exit id, a₁, w₁, hq, fun k' hk => harr k' (by simp [exitTo, hk])⟩
      | goto l' =>
        obtain ⟨hJ', hlt⟩ := hq
        have hg : gotoIn l' (.inScope c :: k) = some (.code (r l') :: .inScope c :: k) := by simp [gotoIn, hf l' _ _ hJ']
        obtain ⟨e₂, a₂, w₂, hq₂, harr₂⟩ := ih _ (by omega) l' a₁ w₁ rfl hJ'
        exact ⟨e₂, a₂, w₂, hq₂, .of_steps (harr _ hg) harr₂⟩
      | ret => exact ⟨_, a₁, w₁, hq, harr⟩
      | panic ch => exact ⟨_, a₁, w₁, hq, harr⟩
      | outgrown => exact ⟨_, a₁, w₁, hq, harr⟩
  obtain ⟨e, a₁, w₁, hq, harr⟩ := first b (.inScope c :: k) cs
  cases e with
  | normal => exact ⟨.normal, a₁, w₁, hq, .head step_scope (Steps.trans harr (.one step_inScope))⟩
  | exit id => exact ⟨.exit id, a₁, w₁, hq, fun k' hk => .head step_scope (harr k' (by simp [exitTo, hk]))⟩
  | goto l' =>
    have hg : gotoIn l' (.inScope c :: k) = some (.code (r l') :: .inScope c :: k) := by simp [gotoIn, hf l' _ _ hq]
    obtain ⟨e₂, a₂, w₂, hq₂, harr₂⟩ := key _ l' a₁ w₁ rfl hq
    exact ⟨e₂, a₂, w₂, hq₂, .of_steps (.head step_scope (harr _ hg)) harr₂⟩
  | ret => exact ⟨_, a₁, w₁, hq, .of_steps (.one step_scope) harr⟩
  | panic ch => exact ⟨_, a₁, w₁, hq, .of_steps (.one step_scope) harr⟩
  | outgrown => exact ⟨_, a₁, w₁, hq, .of_steps (.one step_scope) harr⟩
theorem Passes.skipped {r : Code} {J : Nat → Act → World → Prop} {μ : Nat → Act → World → Nat} {l : Nat} (h : Passes P r J μ Q l) : Passes P (Code.skip.seq r) J μ Q l :=
  fun a w hJ => wp_seq (wp_skip (h a w hJ))
/-- Four labels; a rest may lean on the labels that it runs into. -/
theorem wp_scope_four {c r0 r1 r2 r3 : Code} (J : Nat → Act → World → Prop) (μ : Nat → Act → World → Nat) (hJ : ∀ l a w, J l a w → l < 4)
    (h0 : findLabel c 0 = some (Code.skip.seq r0)) (h1 : findLabel c 1 = some (Code.skip.seq r1)) (h2 : findLabel c 2 = some (Code.skip.seq r2)) (h3 : findLabel c 3 = some (Code.skip.seq r3))
    (p3 : Passes P r3 J μ Q 3) (p1 : Passes P r1 J μ Q 1) (p2 : Passes P r3 J μ Q 3 → Passes P r2 J μ Q 2) (p0 : Passes P r0 J μ Q 0)
    (first : Passes P r0 J μ Q 0 → c.wp P (jumps J Q) a w) : (Code.scope c).wp P Q a w := by
  refine wp_scope_labels (fun l => match l with | 0 => Code.skip.seq r0 | 1 => Code.skip.seq r1 | 2 => Code.skip.seq r2 | _ => Code.skip.seq r3) J μ ?_ ?_ (first p0)
  · intro l a w h
    match l, hJ l a w h with
    | 0, _ => exact h0
    | 1, _ => exact h1
    | 2, _ => exact h2
    | 3, _ => exact h3
  · intro l
    match l with
    | 0 => exact p0.skipped
    | 1 => exact p1.skipped
    | 2 => exact (p2 p3).skipped
    | 3 => exact p3.skipped
    | n + 4 => intro a w h; exact absurd (hJ _ _ _ h) (by omega)
/-- Running into a label. -/
theorem Passes.at {r : Code} {J : Nat → Act → World → Prop} {μ : Nat → Act → World → Nat} {l : Nat} (h : Passes P r J μ Q l) {a : Act} {w : World} {m : Nat} (hJ : J l a w) (hm : μ l a w ≤ m) :
    r.wp P (jumps (fun l' a' w' => J l' a' w' ∧ μ l' a' w' < m) Q) a w :=
  wp_mono (h a w hJ) (jumps_mono fun _ _ _ h => ⟨h.1, Nat.lt_of_lt_of_le h.2 hm⟩)
theorem Passes.begins {r : Code} {J : Nat → Act → World → Prop} {μ : Nat → Act → World → Nat} {l : Nat} (h : Passes P r J μ Q l) {a : Act} {w : World} (hJ : J l a w) : r.wp P (jumps J Q) a w :=
  wp_mono (h a w hJ) (jumps_mono fun _ _ _ h => h.1)
end

/-- A token. -/
structure Tok where
  kd : Nat
  txt : List UInt8
  n : Nat
  at_ : Nat
deriving DecidableEq
/-- What stands at the beginning of bytes. -/
inductive Eff where
  | skip (k : Nat)
  | tok (kd : Nat) (t : List UInt8) (n : Nat)
  | err (e : Nat)
def isName (c : Int) : Bool := isLetter c || isDigit c
def takeC (p : Int → Bool) (l : List UInt8) : List UInt8 := l.takeWhile fun c => p (c.toNat : Int)
def eff (l : List UInt8) : Eff :=
  match l with
  | [] => .err 0
  | c :: _ =>
    if isBlank c.toNat then .skip 1
    else if (c.toNat : Int) == 35 then .skip (takeC (fun c => c != 10) l).length
    else if isLetter c.toNat then (if 32 < (takeC isName l).length then .err 9 else .tok 1 (takeC isName l) 0)
    else if isDigit c.toNat then (if 1073741824 < numTo (takeC isDigit l) 0 then .err 9 else .tok 2 (takeC isDigit l) (numTo (takeC isDigit l) 0))
    else if signOf l = [] then .err 2 else .tok 3 (signOf l) 0
/-- The tokens, or a code and a place. -/
def lexF : Nat → List UInt8 → Nat → Except (Nat × Nat) (List Tok)
  | 0, _, p => .ok [⟨4, [], 0, p⟩]
  | f + 1, l, p =>
    if l = [] then .ok [⟨4, [], 0, p⟩] else
    match eff l with
    | .skip k => lexF f (l.drop k) (p + k)
    | .tok kd t n => (lexF f (l.drop t.length) (p + t.length)).map fun r => ⟨kd, t, n, p⟩ :: r
    | .err e => .error (e, p)
def lexL (l : List UInt8) : Except (Nat × Nat) (List Tok) := if 65536 < l.length then .error (9, 0) else lexF l.length l 0
/-- How much of the text an effect takes: something. -/
def effLen : Eff → Nat
  | .skip k => k
  | .tok _ t _ => t.length
  | .err _ => 1
theorem effLen_pos (l : List UInt8) : 1 ≤ effLen (eff l) := by
  unfold eff
  cases l with
  | nil => simp [effLen]
  | cons c r =>
    simp only
    split
    · simp [effLen]
    · split
      · rename_i h
        have h2 : (c.toNat : Int) = 35 := by simpa using h
        have : c.toNat = 35 := by omega
        simp [effLen, takeC, this]
      · split
        · rename_i h
          split
          · simp [effLen]
          · simp [effLen, takeC, isName, h]
        · split
          · rename_i h
            split
            · simp [effLen]
            · simp [effLen, takeC, h]
          · split
            · simp [effLen]
            · rename_i h
              simp only [effLen]
              have := List.length_pos_iff.2 h
              omega
theorem lexF_fuel : ∀ (f f' : Nat) (l : List UInt8) (p : Nat), l.length ≤ f → l.length ≤ f' → lexF f l p = lexF f' l p := by
  intro f
  induction f with
  | zero =>
    intro f' l p h _
    obtain rfl := List.eq_nil_of_length_eq_zero (Nat.le_zero.1 h)
    cases f' <;> simp [lexF]
  | succ f ih =>
    intro f' l p h h'
    cases f' with
    | zero =>
      obtain rfl := List.eq_nil_of_length_eq_zero (Nat.le_zero.1 h')
      simp [lexF]
    | succ f' =>
      by_cases hl : l = []
      · simp [lexF, hl]
      · have hp := effLen_pos l
        have hll := List.length_pos_iff.2 hl
        simp only [lexF, hl, if_false]
        cases he : eff l with
        | skip k => rw [he] at hp; simp only [effLen] at hp; exact ih _ _ _ (by simp; omega) (by simp; omega)
        | tok kd t n => rw [he] at hp; simp only [effLen] at hp; simp only []; rw [ih f' _ _ (by simp; omega) (by simp; omega)]
        | err e => rfl
/-- The tokens from a place on. -/
def lexAt (l : List UInt8) (p : Nat) : Except (Nat × Nat) (List Tok) := lexF (l.length - p) (l.drop p) p
theorem lexAt_end {l : List UInt8} : lexAt l l.length = .ok [⟨4, [], 0, l.length⟩] := by simp [lexAt, lexF]
theorem lexAt_step {l : List UInt8} {p : Nat} (h : p < l.length) : lexAt l p = match eff (l.drop p) with
    | .skip k => lexAt l (p + k)
    | .tok kd t n => (lexAt l (p + t.length)).map fun r => ⟨kd, t, n, p⟩ :: r
    | .err e => .error (e, p) := by
  unfold lexAt
  obtain ⟨f, hf⟩ : ∃ f, l.length - p = f + 1 := ⟨l.length - p - 1, by omega⟩
  have hne : l.drop p ≠ [] := by simp; omega
  rw [hf]
  have hp := effLen_pos (l.drop p)
  simp only [lexF, hne, if_false]
  cases he : eff (l.drop p) with
  | skip k => rw [he] at hp; simp only [effLen] at hp; simp only [List.drop_drop]; exact lexF_fuel _ _ _ _ (by simp; omega) (by simp)
  | tok kd t n => rw [he] at hp; simp only [effLen] at hp; simp only [List.drop_drop]; rw [lexF_fuel f (l.length - (p + t.length)) _ _ (by simp; omega) (by simp)]
  | err e => rfl
end Go.Proofs.YtcljdlkebaflpaaDoor
