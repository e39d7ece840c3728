/- LexPlaces returns true. -/
import Derived.Test.YtcljdlkebaflpaaDoorLex10
namespace Go.Proofs.YtcljdlkebaflpaaDoor
open Go.RowKit
set_option linter.unusedVariables false

theorem lexL_code {l : List UInt8} {c q : Nat} (h : lexL l = .error (c, q)) : ((c : Int) == 2) = true ∨ ((c : Int) == 2) = false ∧ ((c : Int) == 9) = true := by
  rcases lexL_err h with rfl | rfl
  · exact .inl rfl
  · exact .inr ⟨rfl, rfl⟩
theorem slice_str (s : ByteArray) (p q : Nat) (h1 : p ≤ q) (h2 : q ≤ s.size) (wx : World) :
    (Instr.slice 9 (.string s) (some (.int .i64 (p : Int))) (some (.int .i64 (q : Int))) none).run Tryd.prog wx = .ok (.string (s.extract p q)) wx := by
  have := run_slice_string (P := Tryd.prog) wx 9 s .i64 .i64 (p : Int) (q : Int) Tryd.underlying9 (by omega) (by omega) (by omega)
  simpa using this
theorem extract_at {s : ByteArray} {p m : Nat} {t : List UInt8} (h : (s.data.toList.drop p).take m = t) : s.extract p (p + m) = ⟨t.toArray⟩ := by
  rw [Lib.extract_eq, Nat.add_sub_cancel_left, h]
/-- A byte between two tokens. -/
theorem gap_at {s : ByteArray} {i p : Nat} {b : Bool} (his : i < s.size) (hp : i < p) (h : gapOK b ((s.data.toList.drop i).take (p - i))) :
    ∃ b', gapOK b' ((s.data.toList.drop (i + 1)).take (p - (i + 1))) ∧
      (((((s[i]'his).toNat : Int) == 35) = true ∧ (((s[i]'his).toNat : Int) == 10) = false ∧ b' = true) ∨
       ((((s[i]'his).toNat : Int) == 35) = false ∧ (((s[i]'his).toNat : Int) == 10) = true ∧ b' = false) ∨
       ((((s[i]'his).toNat : Int) == 35) = false ∧ (((s[i]'his).toNat : Int) == 10) = false ∧ b = true ∧ b' = true) ∨
       ((((s[i]'his).toNat : Int) == 35) = false ∧ (((s[i]'his).toNat : Int) == 10) = false ∧ b = false ∧ b' = false ∧
         ((((s[i]'his).toNat : Int) != 32) = false ∨ ((((s[i]'his).toNat : Int) != 32) = true ∧ (((s[i]'his).toNat : Int) != 9) = false) ∨
          ((((s[i]'his).toNat : Int) != 32) = true ∧ (((s[i]'his).toNat : Int) != 9) = true ∧ (((s[i]'his).toNat : Int) != 10) = true ∧ (((s[i]'his).toNat : Int) != 13) = false)))) := by
  have hz : i < s.data.toList.length := by simpa using his
  have e : s.data.toList[i] = s[i]'his := by simp; rfl
  rw [List.drop_eq_getElem_cons hz, e, show p - i = p - (i + 1) + 1 by omega, List.take_succ_cons] at h
  obtain ⟨h1, h2⟩ := h
  refine ⟨_, h2, ?_⟩
  unfold stepC at h1 ⊢
  by_cases c10 : ((s[i]'his).toNat : Int) = 10
  · rw [c10]; right; left; exact ⟨rfl, rfl, rfl⟩
  by_cases c35 : ((s[i]'his).toNat : Int) = 35
  · rw [c35]; left; exact ⟨rfl, rfl, rfl⟩
  have e10 : (((s[i]'his).toNat : Int) == 10) = false := by simpa using c10
  have e35 : (((s[i]'his).toNat : Int) == 35) = false := by simpa using c35
  rw [e10, e35] at h1 ⊢
  simp only [if_false, Bool.false_eq_true] at h1 ⊢
  right; right
  cases b with
  | true => left; simp
  | false =>
    right
    refine ⟨by simp, by simp, rfl, rfl, ?_⟩
    rcases h1 with h1 | h1
    · cases h1
    · simp only [isBlank, Bool.or_eq_true, beq_iff_eq, or_assoc] at h1
      rcases h1 with h1 | h1 | h1 | h1
      · left; rw [h1]; rfl
      · right; left; rw [h1]; exact ⟨rfl, rfl⟩
      · exact absurd h1 c10
      · right; right; rw [h1]; exact ⟨rfl, rfl, rfl, rfl⟩
set_option maxRecDepth 100000 in
theorem lplaces_big (w : World) (hw : Signed w) (s : ByteArray) (h : 2000 < s.size) :
    Calls Tryd.prog 5 #[.string s] w fun e w' => e = .returned (.bool true) ∧ Below w.heap.size w w' := by
  have d1 : decide ((2000 : Int) < (s.size : Int)) = true := by simp; omega
  go_enter Tryd.func5, Tryd.ntmps5
  go_wp2_with fail
  refine (shown_any _ hw).mono ?_
  rintro e w1 ⟨rfl, b1⟩
  go_wp2_with fail
  go_ret
  exact ⟨rfl, b1⟩
set_option maxRecDepth 100000 in
theorem lplaces_err (w : World) (hw : Signed w) (s : ByteArray) (h1 : s.size ≤ 2000) (c q : Nat) (hx : lexL s.data.toList = .error (c, q)) :
    Calls Tryd.prog 5 #[.string s] w fun e w' => e = .returned (.bool true) ∧ Below w.heap.size w w' := by
  have d1 : decide ((2000 : Int) < (s.size : Int)) = false := by simp; omega
  have hc := lexL_err hx
  have hq := lexL_place (by rw [← Lib.size_eq]; omega) hx
  rw [← Lib.size_eq] at hq
  have e0 : ((c : Int) != 0) = true := by simp; omega
  have e1 : decide ((0 : Int) ≤ (q : Int)) = true := by simp
  have e2 : decide ((q : Int) < (s.size : Int)) = true := by simp; omega
  go_enter Tryd.func5, Tryd.ntmps5
  go_wp2_with fail
  refine (shown_any _ hw).mono ?_
  rintro e w1 ⟨rfl, b1⟩
  have hw1 := hw.mono b1
  go_wp2_with fail
  refine (tokens_err _ _ c q hw1 (by omega) hx).mono ?_
  rintro e w2 ⟨rfl, b2⟩
  replace b2 := below_then b1 b2
  rcases lexL_code hx with e3 | ⟨e3, e4⟩
  · clear hc
    go_wp2_with fail
    go_ret
    exact ⟨rfl, b2⟩
  · clear hc
    go_wp2_with fail
    go_ret
    exact ⟨rfl, b2⟩
set_option maxRecDepth 100000 in
set_option maxHeartbeats 4000000 in
theorem lplaces_ok (w : World) (hw : Signed w) (s : ByteArray) (h1 : s.size ≤ 2000) (x : List Tok) (hx : lexL s.data.toList = .ok x) :
    Calls Tryd.prog 5 #[.string s] w fun e w' => e = .returned (.bool true) ∧ Below w.heap.size w w' := by
  have d1 : decide ((2000 : Int) < (s.size : Int)) = false := by simp; omega
  have hG : lexG s.data.toList 0 = .ok x := by rw [← lexL_small (by rw [← Lib.size_eq]; omega)]; exact hx
  have nx := List.length_pos_iff.2 (lexL_ne hx)
  obtain ⟨bx, _⟩ := lexL_len hx
  rw [← Lib.size_eq] at bx
  have e0 : decide ((1 : Int) ≤ (x.length : Int)) = true := by simp; omega
  go_enter Tryd.func5, Tryd.ntmps5
  go_wp2_with fail
  refine (shown_any _ hw).mono ?_
  rintro e w1 ⟨rfl, b1⟩
  have hw1 := hw.mono b1
  go_wp2_with fail
  refine (tokens_ok _ _ x hw1 (by omega) hx).mono ?_
  rintro e w2 ⟨⟨gx, cx, rfl, tx⟩, b2⟩
  replace b2 := below_then b1 b2
  clear hw1 hw hx b1
  go_wp2_with fail
  go_loopw [7, 8] (fun en i w' => ∃ E j : Nat, j ≤ x.length ∧ en = .int .i64 (E : Nat) ∧ i = .int .i64 (j : Nat) ∧ E ≤ s.size ∧ (j < x.length → lexG (s.data.toList.drop E) E = .ok (x.drop j)) ∧ (j = x.length → E = s.size) ∧ Below w2.heap.size w2 w') (fun _ i _ => x.length - (intOf i).toNat)
  case atStart => exact ⟨0, 0, Nat.zero_le _, rfl, rfl, Nat.zero_le _, fun _ => hG, fun h => by omega, Below.refl _ _⟩
  case round =>
    obtain ⟨E, j, hj, rfl, rfl, hE, hl, hend, bel⟩ := hrel
    replace tx := tx.mono bel
    have lx := tx.lt
    by_cases hlt : j < x.length
    · have f1 : decide (j < x.length) = true := by simpa using hlt
      have hxj : x[j]? = some (x[j]'hlt) := List.getElem?_eq_getElem _
      obtain ⟨⟨kd, txt, n, p⟩, hu⟩ : ∃ u, x[j]'hlt = u := ⟨_, rfl⟩
      rw [hu] at hxj
      replace hl := hl hlt
      rw [List.drop_eq_getElem_cons hlt, hu] at hl
      obtain ⟨a, hp, hgap, hle, htx, hcase⟩ := place_step _ _ _ _ hl
      simp only [] at hp hgap hle htx hcase
      rw [List.drop_drop, ← hp] at htx
      rw [List.length_drop, ← Lib.size_eq] at hle
      obtain ⟨m, hm⟩ : ∃ m, txt.length = m := ⟨_, rfl⟩
      rw [hm] at hle htx hcase
      have hTs : (⟨txt.toArray⟩ : ByteArray).size = m := by simp [ByteArray.size, hm]
      have hex := extract_at htx
      obtain ⟨q, hq⟩ : ∃ q, p + m = q := ⟨_, rfl⟩
      rw [hq] at hex
      have hqi : (p : Int) + (m : Int) = (q : Int) := by omega
      have hqs : q ≤ s.size := by omega
      have hpq : p ≤ q := by omega
      obtain ⟨c0, c1, c2, c3⟩ := tx.at_ j _ hxj
      simp only [] at c0 c1 c2 c3
      have g1 : decide (p < E) = false := by simp; omega
      have g0 : IntKind.i64.wrap ((s.size : Int) - (m : Int)) = (s.size : Int) - (m : Int) := IntWalk.i64_in _ (by omega)
      have g8 : IntKind.i64.wrap (q : Int) = (q : Int) := IntWalk.i64_in _ (by omega)
      have hsl := fun wx => slice_str s p q hpq hqs wx
      rw [hex] at hsl
      have g9 : IntKind.i64.wrap ((x.length : Int) - 1) = (x.length : Int) - 1 := IntWalk.i64_in _ (by omega)
      have g2 : decide ((s.size : Int) - (m : Int) < (p : Int)) = false := by simp; omega
      obtain ⟨lst, g3, g4, g5, g6, hE2, hnx⟩ : ∃ lst : Bool, ((m : Int) == 0) = lst ∧ ((j : Int) == (x.length : Int) - 1) = lst ∧ ((kd : Int) == 4) = lst ∧ (((kd : Int) != 2) = false ∨ (((kd : Int) != 2) = true ∧ ((n : Int) != 0) = false)) ∧ (j + 1 < x.length → lexG (s.data.toList.drop q) q = .ok (x.drop (j + 1))) ∧ (j + 1 = x.length → q = s.size) := by
        rcases hcase with ⟨q1, q2, q3, q4, q5⟩ | ⟨q1, q2, q3, q4, q5⟩
        · have := congrArg List.length q1
          simp at this
          refine ⟨true, ?_, ?_, ?_, ?_, fun h => by omega, fun h => ?_⟩
          · rw [← hm, q3]; rfl
          · simp; omega
          · rw [q2]; rfl
          · exact .inr ⟨by rw [q2]; rfl, by rw [q4]; rfl⟩
          · rw [List.length_drop, ← Lib.size_eq] at q5
            rw [← hm, q3] at hq
            simp at hq
            omega
        · have := List.length_pos_iff.2 q1
          simp at this
          have h2 := List.length_pos_iff.2 q2
          refine ⟨false, ?_, ?_, ?_, ?_, fun h => ?_, fun h => by omega⟩
          · simp; omega
          · simp; omega
          · simp; omega
          · by_cases hk : kd = 2
            · exact .inl (by rw [hk]; rfl)
            · exact .inr ⟨by simp; omega, by rw [q4 hk]; rfl⟩
          · rw [List.drop_drop, show E + (a + m) = q by omega, show E + a + m = q by omega] at q5
            exact q5
      have hEp : E ≤ p := by omega
      rw [show a = p - E by omega] at hgap
      clear hcase hl hend hu hxj hp hle hm hq htx
      have hq1 : q ≤ 2000 := by omega
      rcases g6 with g6 | ⟨g6, g7⟩ <;>
      · go_wp2_with fail
        go_quiet (fail)
        go_wp2_with fail
        go_loop [10, 11] (fun c k => ∃ (b : Bool) (i : Nat), c = .bool b ∧ k = .int .i64 (i : Nat) ∧ E ≤ i ∧ i ≤ p ∧ gapOK b ((s.data.toList.drop i).take (p - i))) (fun _ k => p - (intOf k).toNat)
        case atStart => exact ⟨false, E, rfl, rfl, Nat.le_refl _, hEp, hgap⟩
        case round =>
          obtain ⟨b, i, rfl, rfl, hEi, hip, hb⟩ := hrel
          by_cases hl2 : i < p
          · have k1 : decide (i < p) = true := by simpa using hl2
            have his : i < s.size := by omega
            obtain ⟨b', hb', hc'⟩ := gap_at his hl2 hb
            rcases hc' with ⟨k2, k3, rfl⟩ | ⟨k2, k3, rfl⟩ | ⟨k2, k3, rfl, rfl⟩ | ⟨k2, k3, rfl, rfl, k4⟩
            · go_wp2_with fail
              exact ⟨⟨true, i + 1, rfl, by simp, by omega, by omega, hb'⟩, by simp [intOf]; omega⟩
            · have k4 : (((s[i]'his).toNat : Int) != 32) = true := by have := eq_of_beq k3; rw [this]; decide
              have k5 : (((s[i]'his).toNat : Int) != 9) = true := by have := eq_of_beq k3; rw [this]; decide
              have k6 : (((s[i]'his).toNat : Int) != 10) = false := by have := eq_of_beq k3; rw [this]; decide
              go_wp2_with fail
              exact ⟨⟨false, i + 1, rfl, by simp, by omega, by omega, hb'⟩, by simp [intOf]; omega⟩
            · go_wp2_with fail
              exact ⟨⟨true, i + 1, rfl, by simp, by omega, by omega, hb'⟩, by simp [intOf]; omega⟩
            · rcases k4 with k4 | ⟨k4, k5⟩ | ⟨k4, k5, k6, k7⟩
              · go_wp2_with fail
                exact ⟨⟨false, i + 1, rfl, by simp, by omega, by omega, hb'⟩, by simp [intOf]; omega⟩
              · go_wp2_with fail
                exact ⟨⟨false, i + 1, rfl, by simp, by omega, by omega, hb'⟩, by simp [intOf]; omega⟩
              · go_wp2_with fail
                exact ⟨⟨false, i + 1, rfl, by simp, by omega, by omega, hb'⟩, by simp [intOf]; omega⟩
          · have k1 : decide (i < p) = false := by simpa using hl2
            obtain rfl : i = p := by omega
            go_wp2_with fail
            refine ⟨⟨q, j + 1, by omega, rfl, by simp, hqs, hE2, hnx, (bel.alloc bel.size _).trans (below_drewN (Below.refl _ _) _)⟩, by simp [intOf]; omega⟩
    · have f1 : decide (j < x.length) = false := by simpa using hlt
      obtain rfl := hend (by omega)
      go_wp2_with fail
      go_ret
      exact ⟨rfl, below_then b2 bel⟩
theorem lexplaces_any (w : World) (hw : Signed w) (s : ByteArray) :
    Calls Tryd.prog 5 #[.string s] w fun e w' => e = .returned (.bool true) ∧ Below w.heap.size w w' := by
  by_cases h : 2000 < s.size
  · exact lplaces_big w hw s h
  cases hx : lexL s.data.toList with
  | error e => exact lplaces_err w hw s (by omega) e.1 e.2 hx
  | ok x => exact lplaces_ok w hw s (by omega) x hx
end Go.Proofs.YtcljdlkebaflpaaDoor
