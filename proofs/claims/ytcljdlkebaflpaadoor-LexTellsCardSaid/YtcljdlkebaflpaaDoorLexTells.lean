/- LexTells returns true. -/
import Derived.Test.YtcljdlkebaflpaaDoorLex14
namespace Go.Proofs.YtcljdlkebaflpaaDoor
open Go.RowKit
set_option linter.unusedVariables false

theorem ref_ok (w : World) (s : ByteArray) (ts : List Tok) (hs : s.size ≤ 65536) (h : lexL s.data.toList = .ok ts) :
    Calls Tryd.prog 12 #[.string s] w fun e w' => (∃ g cap, e = .returned (.tuple #[.slice (some ⟨g, 0, none⟩) ts.length cap, .int .i64 0, .int .i64 0]) ∧ TokAt w' g ts) ∧ Below w.heap.size w w' := by
  have hx : lexAt s.data.toList 0 = .ok ts := by rw [← h]; unfold lexL lexAt; rw [if_neg (by rw [← Lib.size_eq]; omega)]; simp
  refine (reftok_any w s hs).mono ?_
  rw [hx]
  rintro e w' ⟨⟨v, rfl, own⟩, b⟩
  have hne := List.length_pos_iff.2 (lexL_ne h)
  obtain ⟨g, cap, rfl, _, hg, hc⟩ := own_at own hne
  refine ⟨⟨g, cap, rfl, hg, fun j t ht => ?_⟩, b⟩
  have hj := (List.getElem?_eq_some_iff.1 ht).1
  obtain ⟨c0, c1, c2, c3⟩ := tokCells_at ts j t ht
  exact ⟨(hc _ (by omega)).trans c0, (hc _ (by omega)).trans c1, (hc _ (by omega)).trans c2, (hc _ (by omega)).trans c3⟩
theorem ref_err (w : World) (s : ByteArray) (c q : Nat) (hs : s.size ≤ 65536) (h : lexL s.data.toList = .error (c, q)) :
    Calls Tryd.prog 12 #[.string s] w fun e w' => e = .returned (.tuple #[.slice none 0 0, .int .i64 (c : Nat), .int .i64 (q : Nat)]) ∧ Below w.heap.size w w' := by
  have hx : lexAt s.data.toList 0 = .error (c, q) := by rw [← h]; unfold lexL lexAt; rw [if_neg (by rw [← Lib.size_eq]; omega)]; simp
  refine (reftok_any w s hs).mono ?_
  rw [hx]
  rintro e w' ⟨rfl, b⟩
  exact ⟨rfl, b⟩
set_option maxRecDepth 100000 in
theorem ltells_big (w : World) (hw : Signed w) (s : ByteArray) (h : 3000 < s.size) :
    Calls Tryd.prog 3 #[.string s] w fun e w' => e = .returned (.bool true) ∧ Below w.heap.size w w' := by
  have d1 : decide ((3000 : Int) < (s.size : Int)) = true := by simp; omega
  go_enter Tryd.func3, Tryd.ntmps3
  go_wp2_with fail
  refine (shown_any _ hw).mono ?_
  rintro e w1 ⟨rfl, b1⟩
  go_wp2_with fail
  go_ret
  exact ⟨rfl, b1⟩
set_option maxRecDepth 100000 in
set_option maxHeartbeats 8000000 in
theorem ltells_err (w : World) (hw : Signed w) (s : ByteArray) (h1 : s.size ≤ 3000) (c q : Nat) (hx : lexL s.data.toList = .error (c, q)) :
    Calls Tryd.prog 3 #[.string s] w fun e w' => e = .returned (.bool true) ∧ Below w.heap.size w w' := by
  have d1 : decide ((3000 : Int) < (s.size : Int)) = false := by simp; omega
  have e0 : ((c : Int) == (c : Int)) = true := by simp
  have e1 : ((q : Int) == (q : Int)) = true := by simp
  go_enter Tryd.func3, Tryd.ntmps3
  go_wp2_with fail
  refine (shown_any _ hw).mono ?_
  rintro e w1 ⟨rfl, b1⟩
  have hw1 := hw.mono b1
  go_wp2_with fail
  refine (tokens_err _ _ c q hw1 (by omega) hx).mono ?_
  rintro e w2 ⟨rfl, b2⟩
  have hw2 := hw1.mono b2
  replace b1 := below_then b1 b2
  go_wp2_with fail
  refine (ref_err _ _ c q (by omega) hx).mono ?_
  rintro e w3 ⟨rfl, b3⟩
  have hw3 := hw2.mono b3
  replace b1 := below_then b1 b3
  go_wp2_with fail
  refine (signs_any _ hw3).mono ?_
  rintro e w4 ⟨⟨v, rfl, own4⟩, b4⟩
  obtain ⟨g4, cap4, rfl, s4⟩ := strs_own own4 (by omega)
  replace b1 := below_then b1 b4
  clear own4
  go_wp2_with fail
  refine (refSigns_any _).mono ?_
  rintro e w5 ⟨⟨v, rfl, own5⟩, b5⟩
  obtain ⟨g5, cap5, rfl, s5⟩ := strs_own own5 (by omega)
  replace b1 := below_then b1 b5
  replace s4 := s4.mono b5
  clear own5 b2 b3 b4 b5 hw hw1 hw2 hw3 hx
  go_wp2_with fail
  go_loopw [12] (fun i w' => ∃ j : Nat, j ≤ 22 ∧ i = .int .i64 (j : Nat) ∧ Below w5.heap.size w5 w') (fun i _ => 22 - (intOf i).toNat)
  case atStart => exact ⟨0, Nat.zero_le _, rfl, Below.refl _ _⟩
  case round =>
    obtain ⟨j, hj, rfl, bel⟩ := hrel
    replace s4 := s4.mono bel
    replace s5 := s5.mono bel
    have l4 := s4.lt
    have l5 := s5.lt
    by_cases hlt : j < 22
    · have f1 : decide (j < 22) = true := by simpa using hlt
      obtain ⟨S, hS⟩ : ∃ S, signL[j]? = some S := ⟨_, List.getElem?_eq_getElem (show j < signL.length from hlt)⟩
      have c4 := s4.at_ j S hS
      have c5 := s5.at_ j S hS
      clear hS
      go_wp2_with fail
      go_quiet (fail)
      go_wp2_with fail
      exact ⟨⟨j + 1, by omega, by simp, bel.trans (below_drewN (Below.refl _ _) _)⟩, by simp [intOf]; omega⟩
    · have f1 : decide (j < 22) = false := by simpa using hlt
      go_wp2_with fail
      refine (same_nil _).mono ?_
      rintro e w6 ⟨rfl, b6⟩
      go_wp2_with fail
      go_ret
      exact ⟨rfl, below_then (below_then b1 bel) b6⟩
set_option maxRecDepth 100000 in
set_option maxHeartbeats 8000000 in
theorem ltells_ok (w : World) (hw : Signed w) (s : ByteArray) (h1 : s.size ≤ 3000) (x : List Tok) (hx : lexL s.data.toList = .ok x) :
    Calls Tryd.prog 3 #[.string s] w fun e w' => e = .returned (.bool true) ∧ Below w.heap.size w w' := by
  have d1 : decide ((3000 : Int) < (s.size : Int)) = false := by simp; omega
  obtain ⟨bx, _⟩ := lexL_len hx
  rw [← Lib.size_eq] at bx
  go_enter Tryd.func3, Tryd.ntmps3
  go_wp2_with fail
  refine (shown_any _ hw).mono ?_
  rintro e w1 ⟨rfl, b1⟩
  have hw1 := hw.mono b1
  go_wp2_with fail
  refine (tokens_ok _ _ x hw1 (by omega) hx).mono ?_
  rintro e w2 ⟨⟨gx, cx, rfl, tx⟩, b2⟩
  have hw2 := hw1.mono b2
  replace b1 := below_then b1 b2
  go_wp2_with fail
  refine (ref_ok _ _ x (by omega) hx).mono ?_
  rintro e w3 ⟨⟨gy, cy, rfl, ty⟩, b3⟩
  have hw3 := hw2.mono b3
  replace b1 := below_then b1 b3
  replace tx := tx.mono b3
  go_wp2_with fail
  refine (signs_any _ hw3).mono ?_
  rintro e w4 ⟨⟨v, rfl, own4⟩, b4⟩
  obtain ⟨g4, cap4, rfl, s4⟩ := strs_own own4 (by omega)
  replace b1 := below_then b1 b4
  replace tx := tx.mono b4
  replace ty := ty.mono b4
  clear own4
  go_wp2_with fail
  refine (refSigns_any _).mono ?_
  rintro e w5 ⟨⟨v, rfl, own5⟩, b5⟩
  obtain ⟨g5, cap5, rfl, s5⟩ := strs_own own5 (by omega)
  replace b1 := below_then b1 b5
  replace s4 := s4.mono b5
  replace tx := tx.mono b5
  replace ty := ty.mono b5
  clear own5 b2 b3 b4 b5 hw hw1 hw2 hw3 hx
  go_wp2_with fail
  go_loopw [12] (fun i w' => ∃ j : Nat, j ≤ 22 ∧ i = .int .i64 (j : Nat) ∧ Below w5.heap.size w5 w') (fun i _ => 22 - (intOf i).toNat)
  case atStart => exact ⟨0, Nat.zero_le _, rfl, Below.refl _ _⟩
  case round =>
    obtain ⟨j, hj, rfl, bel⟩ := hrel
    replace s4 := s4.mono bel
    replace s5 := s5.mono bel
    have l4 := s4.lt
    have l5 := s5.lt
    replace tx := tx.mono bel
    replace ty := ty.mono bel
    by_cases hlt : j < 22
    · have f1 : decide (j < 22) = true := by simpa using hlt
      obtain ⟨S, hS⟩ : ∃ S, signL[j]? = some S := ⟨_, List.getElem?_eq_getElem (show j < signL.length from hlt)⟩
      have c4 := s4.at_ j S hS
      have c5 := s5.at_ j S hS
      clear hS
      go_wp2_with fail
      go_quiet (fail)
      go_wp2_with fail
      exact ⟨⟨j + 1, by omega, by simp, bel.trans (below_drewN (Below.refl _ _) _)⟩, by simp [intOf]; omega⟩
    · have f1 : decide (j < 22) = false := by simpa using hlt
      go_wp2_with fail
      refine (same_eq _ gx gy _ _ x tx ty (by omega)).mono ?_
      rintro e w6 ⟨rfl, b6⟩
      go_wp2_with fail
      go_ret
      exact ⟨rfl, below_then (below_then b1 bel) b6⟩
theorem lextells_any (w : World) (hw : Signed w) (s : ByteArray) :
    Calls Tryd.prog 3 #[.string s] w fun e w' => e = .returned (.bool true) ∧ Below w.heap.size w w' := by
  by_cases h : 3000 < s.size
  · exact ltells_big w hw s h
  cases hx : lexL s.data.toList with
  | error e => exact ltells_err w hw s (by omega) e.1 e.2 hx
  | ok x => exact ltells_ok w hw s (by omega) x hx
end Go.Proofs.YtcljdlkebaflpaaDoor
