/- lex.Tokens, as the laws call it; rows of tokens. -/
import Derived.Test.YtcljdlkebaflpaaDoorLex6
namespace Go.Proofs.YtcljdlkebaflpaaDoor
open Go.RowKit
set_option linter.unusedVariables false

/-- A row of tokens lies at a block. -/
structure TokAt (w : World) (g : Nat) (ts : List Tok) : Prop where
  lt : g < w.heap.size
  at_ : ∀ (j : Nat) (t : Tok), ts[j]? = some t → w.cell? ⟨g, j * 4, none⟩ = some (.int .i64 (t.kd : Nat)) ∧ w.cell? ⟨g, j * 4 + 1, none⟩ = some (.string ⟨t.txt.toArray⟩) ∧ w.cell? ⟨g, j * 4 + 2, none⟩ = some (.int .i64 (t.n : Nat)) ∧ w.cell? ⟨g, j * 4 + 3, none⟩ = some (.int .i64 (t.at_ : Nat))
theorem TokAt.mono {w w' : World} {g : Nat} {ts : List Tok} (h : TokAt w g ts) (hb : Below w.heap.size w w') : TokAt w' g ts :=
  ⟨Nat.lt_of_lt_of_le h.lt hb.size, fun j t ht => by
    obtain ⟨a, b, c, d⟩ := h.at_ j t ht
    exact ⟨(hb.cell (p := ⟨g, _, none⟩) h.lt).trans a, (hb.cell (p := ⟨g, _, none⟩) h.lt).trans b, (hb.cell (p := ⟨g, _, none⟩) h.lt).trans c, (hb.cell (p := ⟨g, _, none⟩) h.lt).trans d⟩⟩
theorem tokCells_at : ∀ (ts : List Tok) (j : Nat) (t : Tok), ts[j]? = some t → (tokCells ts)[j * 4]? = some (.int .i64 (t.kd : Nat)) ∧ (tokCells ts)[j * 4 + 1]? = some (.string ⟨t.txt.toArray⟩) ∧ (tokCells ts)[j * 4 + 2]? = some (.int .i64 (t.n : Nat)) ∧ (tokCells ts)[j * 4 + 3]? = some (.int .i64 (t.at_ : Nat)) := by
  intro ts
  induction ts with
  | nil => intro j t h; simp at h
  | cons f r ih =>
    intro j t h
    have e : tokCells (f :: r) = .int .i64 (f.kd : Int) :: .string ⟨f.txt.toArray⟩ :: .int .i64 (f.n : Int) :: .int .i64 (f.at_ : Int) :: tokCells r := by simp [tokCells]
    rw [e]
    cases j with
    | zero => simp at h; subst h; simp
    | succ j =>
      rw [List.getElem?_cons_succ] at h
      have := ih j t h
      rw [show (j + 1) * 4 = j * 4 + 1 + 1 + 1 + 1 by omega]
      simpa using this
theorem lexG_err : ∀ (l : List UInt8) (p c q : Nat), lexG l p = .error (c, q) → c = 2 ∨ c = 9 := by
  refine lex_induct ?_ ?_
  · intro p c q h; rw [lexG_nil] at h; cases h
  · intro l hl ih p c q h
    have hp := effLen_pos l
    rw [lexG_step hl] at h
    cases he : eff l with
    | skip k => rw [he] at h hp; exact ih k hp _ _ _ h
    | tok kd t n =>
      rw [he] at h hp
      simp only [] at h
      cases hx : lexG (l.drop t.length) (p + t.length) with
      | error e => rw [hx] at h; cases h; exact ih _ hp _ _ _ hx
      | ok r => rw [hx] at h; cases h
    | err e =>
      rw [he] at h
      cases h
      cases l with
      | nil => exact absurd rfl hl
      | cons c r =>
        unfold eff at he
        simp only at he
        repeat' split at he
        all_goals first | (cases he; done) | (cases he; simp)
theorem lexL_err {l : List UInt8} {c q : Nat} (h : lexL l = .error (c, q)) : c = 2 ∨ c = 9 := by
  unfold lexL at h
  split at h
  · cases h; simp
  · exact lexG_err l 0 c q h
theorem lexL_ne {l : List UInt8} {ts : List Tok} (h : lexL l = .ok ts) : ts ≠ [] := by
  unfold lexL at h
  split at h
  · cases h
  · exact lexG_ne l 0 ts h
theorem tokens_ok (w : World) (s : ByteArray) (ts : List Tok) (hw : Signed w) (hs : s.size ≤ 9223372036854775807) (h : lexL s.data.toList = .ok ts) :
    Calls Tryd.prog 11 #[.string s] w fun e w' => (∃ g cap, e = .returned (.tuple #[.slice (some ⟨g, 0, none⟩) ts.length cap, .int .i64 0, .int .i64 0]) ∧ TokAt w' g ts) ∧ Below w.heap.size w w' := by
  refine (tokens_any w s hw hs).mono ?_
  rw [h]
  rintro e w' ⟨⟨v, rfl, own⟩, b⟩
  have hne := List.length_pos_iff.2 (lexL_ne h)
  obtain ⟨g, cap, rfl, _, hg, hc⟩ := own_at own hne
  refine ⟨⟨g, cap, rfl, hg, fun j t ht => ?_⟩, b⟩
  have hj := (List.getElem?_eq_some_iff.1 ht).1
  obtain ⟨c0, c1, c2, c3⟩ := tokCells_at ts j t ht
  exact ⟨(hc _ (by omega)).trans c0, (hc _ (by omega)).trans c1, (hc _ (by omega)).trans c2, (hc _ (by omega)).trans c3⟩
theorem tokens_err (w : World) (s : ByteArray) (c q : Nat) (hw : Signed w) (hs : s.size ≤ 9223372036854775807) (h : lexL s.data.toList = .error (c, q)) :
    Calls Tryd.prog 11 #[.string s] w fun e w' => e = .returned (.tuple #[.slice none 0 0, .int .i64 (c : Nat), .int .i64 (q : Nat)]) ∧ Below w.heap.size w w' := by
  refine (tokens_any w s hw hs).mono ?_
  rw [h]
  rintro e w' ⟨rfl, b⟩
  exact ⟨rfl, b⟩
theorem lf_bytes (s t : ByteArray) : (s ++ (⟨#[10]⟩ : ByteArray) ++ t).data.toList = s.data.toList ++ 10 :: t.data.toList := by simp
theorem lf_size (s t : ByteArray) : (s ++ (⟨#[10]⟩ : ByteArray) ++ t).size = s.size + 1 + t.size := by
  rw [Lib.size_eq, lf_bytes, Lib.size_eq, Lib.size_eq]
  simp
  omega
theorem lexG_place : ∀ (l : List UInt8) (p c q : Nat), lexG l p = .error (c, q) → p ≤ q ∧ q < p + l.length := by
  refine lex_induct ?_ ?_
  · intro p c q h; rw [lexG_nil] at h; cases h
  · intro l hl ih p c q h
    have hp := effLen_pos l
    have hle := effLen_le hl
    rw [lexG_step hl] at h
    cases he : eff l with
    | skip k =>
      rw [he] at h hp hle
      simp only [effLen] at hp hle
      have := ih k hp _ _ _ h
      simp at this
      omega
    | tok kd t n =>
      rw [he] at h hp hle
      simp only [effLen] at hp hle
      simp only [] at h
      cases hx : lexG (l.drop t.length) (p + t.length) with
      | error e =>
        rw [hx] at h
        cases h
        have := ih _ hp _ _ _ hx
        simp at this
        omega
      | ok r => rw [hx] at h; cases h
    | err e =>
      rw [he] at h
      cases h
      have := List.length_pos_iff.2 hl
      omega
theorem lexL_place {l : List UInt8} {c q : Nat} (hl : l.length ≤ 65536) (h : lexL l = .error (c, q)) : q < l.length := by
  rw [lexL_small hl] at h
  have := lexG_place l 0 c q h
  omega
theorem lexG_len : ∀ (l : List UInt8) (p : Nat) (ts : List Tok), lexG l p = .ok ts → ts.length ≤ l.length + 1 ∧ ∀ t ∈ ts, t.at_ ≤ p + l.length := by
  refine lex_induct ?_ ?_
  · intro p ts h
    rw [lexG_nil] at h
    cases h
    simp
  · intro l hl ih p ts h
    have hp := effLen_pos l
    have hle := effLen_le hl
    rw [lexG_step hl] at h
    cases he : eff l with
    | skip k =>
      rw [he] at h hp hle
      simp only [effLen] at hp hle
      obtain ⟨a, b⟩ := ih k hp _ _ h
      simp only [List.length_drop] at a b
      exact ⟨by omega, fun t ht => by have := b t ht; omega⟩
    | tok kd t n =>
      rw [he] at h hp hle
      simp only [effLen] at hp hle
      simp only [] at h
      cases hx : lexG (l.drop t.length) (p + t.length) with
      | error e => rw [hx] at h; cases h
      | ok r =>
        rw [hx] at h
        cases h
        obtain ⟨a, b⟩ := ih _ hp _ _ hx
        simp only [List.length_drop] at a b
        refine ⟨by simp; omega, fun u hu => ?_⟩
        rcases List.mem_cons.1 hu with rfl | hu
        · simp
        · have := b u hu; omega
    | err e => rw [he] at h; cases h
theorem lexL_len {l : List UInt8} {ts : List Tok} (h : lexL l = .ok ts) : ts.length ≤ l.length + 1 ∧ ∀ t ∈ ts, t.at_ ≤ l.length := by
  unfold lexL at h
  split at h
  · cases h
  · have := lexG_len l 0 ts h
    rwa [Nat.zero_add] at this
end Go.Proofs.YtcljdlkebaflpaaDoor
