/- The document's Get of the flat store (by gen06y.py). -/
import Derived.Test.YtbbdeefnooaacaaFlatJ
namespace Go.Proofs.Ytbbdeefnooaacaa
open Go.RowKit
set_option linter.unusedVariables false
set_option linter.unusedSimpArgs false
def bitF (FL : List (Bool × Bool)) (q f : Nat) : Bool := if f = 0 then (FL.getD q (false, false)).1 else (FL.getD q (false, false)).2
theorem fv_get : ∀ (FL : List (Bool × Bool)) (q : Nat), q < FL.length → (fv FL)[q * 2]? = some (.bool (bitF FL q 0)) ∧ (fv FL)[q * 2 + 1]? = some (.bool (bitF FL q 1))
  | [], q, h => by simp at h
  | p :: FL, 0, _ => ⟨rfl, rfl⟩
  | p :: FL, q + 1, h => by
    have ih := fv_get FL q (by simpa using h)
    have e : fv (p :: FL) = .bool p.1 :: .bool p.2 :: fv FL := rfl
    rw [e, show (q + 1) * 2 = q * 2 + 1 + 1 by omega]
    simp only [List.getElem?_cons_succ]
    exact ih
theorem refgetF_bad (w : World) (cap : Int) (dk : Option Addr) (n ck : Nat) (df : Option Addr) (cf : Nat) (ya : Option Addr) (yl yc : Nat) (f : Int) (hf : f < 0 ∨ 1 < f) :
    Calls Try.prog 14 #[.agg #[.int .i64 cap, .slice dk n ck, .slice df n cf], .slice ya yl yc, .int .i64 f] w fun e w' => e = .returned (.tuple #[.bool false, .int .i64 1]) ∧ Below w.heap.size w w' := by
  have bA : ∀ o : Obj, Below w.heap.size w (w.alloc o) := fun o => (Below.refl _ _).alloc (Nat.le_refl _) _
  by_cases h0 : f < 0
  · have d1 : decide (f < 0) = true := by simpa using h0
    go_enter Try.func14, Try.ntmps14
    go_wp2_with fail
    go_ret2
    exact ⟨rfl, bA _⟩
  · have d1 : decide (f < 0) = false := by simpa using h0
    have d2 : decide (1 < f) = true := by simp; omega
    go_enter Try.func14, Try.ntmps14
    go_wp2_with fail
    go_ret2
    exact ⟨rfl, bA _⟩
theorem refgetF_ev (w : World) (cap : Int) (dk df : Option Addr) (n ck cf : Nat) (ks : List (List Nat)) (FL : List (Bool × Bool)) (h : DocF w dk n (.slice df n cf) ks FL) (hsm : n ≤ 1048576) (ya : Option Addr) (yl yc : Nat) (key : List Nat) (hk : BytesAt w ya yl yc key) (f : Nat) (hf : f < 2) :
    Calls Try.prog 14 #[.agg #[.int .i64 cap, .slice dk n ck, .slice df n cf], .slice ya yl yc, .int .i64 (f : Nat)] w fun e w' => ((key ∉ ks ∧ e = .returned (.tuple #[.bool false, .int .i64 10])) ∨ ∃ q, q < ks.length ∧ ks.getD q [] = key ∧ e = .returned (.tuple #[.bool (bitF FL q f), .int .i64 0])) ∧ Below w.heap.size w w' := by
  have b1 : Below w.heap.size w (w.alloc (.cells #[.int .i64 cap, .slice dk n ck, .slice df n cf] 37)) := (Below.refl _ _).alloc (Nat.le_refl _) _
  have gb := heap_alloc_new w (.cells #[.int .i64 cap, .slice dk n ck, .slice df n cf] 37)
  have hln := h.keys.len
  have d1 : decide ((f : Int) < 0) = false := by simp
  have d2 : decide ((1 : Int) < (f : Int)) = false := by simp; omega
  go_enter Try.func14, Try.ntmps14
  go_upto_region 1 with fail
  obtain ⟨W1, hv⟩ : ∃ v, w.alloc (.cells #[.int .i64 cap, .slice dk n ck, .slice df n cf] 37) = v := ⟨_, rfl⟩
  obtain ⟨g, hg⟩ : ∃ g, w.heap.size = g := ⟨_, rfl⟩
  rw [hv] at b1 gb ⊢
  rw [hg] at gb ⊢
  have h1 := h.mono b1
  clear hv hg
  have c0 : W1.cell? ⟨g, 0, none⟩ = some (.int .i64 cap) := cell_of_row _ _ 0 _ _ _ gb
  have c1 : W1.cell? ⟨g, 1, none⟩ = some (.slice dk n ck) := cell_of_row _ _ 1 _ _ _ gb
  have c2 : W1.cell? ⟨g, 2, none⟩ = some (.slice df n cf) := cell_of_row _ _ 2 _ _ _ gb
  go_wp2_with fail
  refine (refplace_any W1 cap dk n ck df n cf ks h1.keys ya yl yc key (hk.mono b1)).mono ?_
  rintro e w1 ⟨⟨p, rfl, hp⟩, b2⟩
  clear c0 c1 c2
  replace gb := (b2.block g (Array.getElem?_eq_some_iff.1 gb).1).trans gb
  have c2 : w1.cell? ⟨g, 2, none⟩ = some (.slice df n cf) := cell_of_row _ _ 2 _ _ _ gb
  have bt := below_then b1 b2
  have hfl := (h1.mono b2).flag
  have hFL := h.len
  clear h h1 hk
  rcases hp with ⟨hm, q, rfl, hq, hqk⟩ | ⟨hm, rfl⟩
  · have hqn : q < n := by omega
    have e1 : decide (((q : Nat) : Int) < 0) = false := by simp
    have i1 : (q : Int) < (n : Int) := by omega
    obtain ⟨gF, rfl, _, hcell⟩ := own_at hfl (by omega)
    obtain ⟨v0, v1⟩ := fv_get FL q (by omega)
    have k0 := hcell _ _ v0
    have k1 := hcell _ _ v1
    rw [Addr.add_lit, Nat.zero_add] at k0 k1
    have HQ := Lib.hid hqk
    have hqk2 := Lib.hid hq
    clear hm hqk hcell v0 v1 hfl hq
    rcases (by omega : f = 0 ∨ f = 1) with rfl | rfl
    all_goals
      go_wp2_with fail
      go_ret2
      exact ⟨.inr ⟨q, hqk2.out, HQ.out, rfl⟩, bt⟩
  · have HM := Lib.hid hm
    clear hm
    go_wp2_with fail
    go_ret2
    exact ⟨.inl ⟨HM.out, rfl⟩, bt⟩
end Go.Proofs.Ytbbdeefnooaacaa
