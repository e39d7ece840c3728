/- SemTells returns true (by gen17u.py). -/
import Derived.Test.YtdeanjphcggbpaaSemS
import Derived.Test.YtdeanjphcggbpaaSemT
namespace Go.Proofs.Ytdeanjphcggbpaa
open Go.RowKit
set_option linter.unusedVariables false
set_option linter.unusedSimpArgs false

set_option maxRecDepth 100000 in
set_option maxHeartbeats 8000000 in
theorem semtells_any (w : World) (ta : T) (va : Value) (wa : Option Addr) (wn wk : Nat) (L : Int) (row : Nat → List Int) (hta : TreeAt w ta va) (hr : WordAt w wa wn row) (hnb : wn ≤ 9223372036854775807) :
    Calls Try.prog 3 #[va, .agg #[.slice wa wn wk, .int .i64 L]] w fun e w' => e = .returned (.bool true) ∧ Below w.heap.size w w' := by
  obtain ⟨oa, na, qa, aa, la, ca, rfl⟩ := hta.shape
  obtain ⟨pa, pw, bt⟩ := heap2 w #[.int .i64 oa, .int .i64 na, .int .i64 qa, .slice aa la ca] #[.slice wa wn wk, .int .i64 L] 24 27
  go_enter Try.func3, Try.ntmps3
  go_upto_region 1 with fail
  obtain ⟨v, hv⟩ : ∃ v, ((w.alloc (.cells #[.int .i64 oa, .int .i64 na, .int .i64 qa, .slice aa la ca] 24)).alloc (.cells #[.slice wa wn wk, .int .i64 L] 27)) = v := ⟨_, rfl⟩
  rw [hv] at pa pw bt ⊢
  obtain ⟨gw, hgw⟩ : ∃ g, w.heap.size + 1 = g := ⟨_, rfl⟩
  rw [hgw] at pw ⊢
  obtain ⟨ga, hga⟩ : ∃ g, w.heap.size = g := ⟨_, rfl⟩
  rw [hga] at pa ⊢
  clear hga hgw hv
  have ca0 : v.cell? ⟨ga, 0, none⟩ = some (.int .i64 oa) := cell_of_row _ _ 0 _ _ _ pa
  have ca1 : v.cell? ⟨ga, 1, none⟩ = some (.int .i64 na) := cell_of_row _ _ 1 _ _ _ pa
  have ca2 : v.cell? ⟨ga, 2, none⟩ = some (.int .i64 qa) := cell_of_row _ _ 2 _ _ _ pa
  have ca3 : v.cell? ⟨ga, 3, none⟩ = some (.slice aa la ca) := cell_of_row _ _ 3 _ _ _ pa
  have cw0 : v.cell? ⟨gw, 0, none⟩ = some (.slice wa wn wk) := cell_of_row _ _ 0 _ _ _ pw
  have cw1 : v.cell? ⟨gw, 1, none⟩ = some (.int .i64 L) := cell_of_row _ _ 1 _ _ _ pw
  go_wp2_with fail
  refine (shown_any _).mono ?_
  rintro e w1 ⟨rfl, b1⟩
  clear ca0 ca1 ca2 ca3 cw0 cw1
  replace pa := (b1.block ga (Array.getElem?_eq_some_iff.1 pa).1).trans pa
  replace pw := (b1.block gw (Array.getElem?_eq_some_iff.1 pw).1).trans pw
  replace bt := below_then bt b1
  have ca0 : w1.cell? ⟨ga, 0, none⟩ = some (.int .i64 oa) := cell_of_row _ _ 0 _ _ _ pa
  have ca1 : w1.cell? ⟨ga, 1, none⟩ = some (.int .i64 na) := cell_of_row _ _ 1 _ _ _ pa
  have ca2 : w1.cell? ⟨ga, 2, none⟩ = some (.int .i64 qa) := cell_of_row _ _ 2 _ _ _ pa
  have ca3 : w1.cell? ⟨ga, 3, none⟩ = some (.slice aa la ca) := cell_of_row _ _ 3 _ _ _ pa
  have cw0 : w1.cell? ⟨gw, 0, none⟩ = some (.slice wa wn wk) := cell_of_row _ _ 0 _ _ _ pw
  have cw1 : w1.cell? ⟨gw, 1, none⟩ = some (.int .i64 L) := cell_of_row _ _ 1 _ _ _ pw
  by_cases h12 : 20 < wn
  · have f1 : decide (20 < wn) = true := by simpa using h12
    have f2 : decide ((20 : Int) < (wn : Int)) = true := by simp; omega
    go_wp2_with fail
    go_ret
    exact ⟨rfl, bt⟩
  have f1 : decide (20 < wn) = false := by simpa using h12
  have f2 : decide ((20 : Int) < (wn : Int)) = false := by simp; omega
  go_wp2_with fail
  refine (fewW_any _ wa wn wk L row (hr.mono bt) (by omega)).mono ?_
  rintro e w2 ⟨⟨FW, rfl⟩, b2⟩
  clear ca0 ca1 ca2 ca3 cw0 cw1
  replace pa := (b2.block ga (Array.getElem?_eq_some_iff.1 pa).1).trans pa
  replace pw := (b2.block gw (Array.getElem?_eq_some_iff.1 pw).1).trans pw
  replace bt := below_then bt b2
  have ca0 : w2.cell? ⟨ga, 0, none⟩ = some (.int .i64 oa) := cell_of_row _ _ 0 _ _ _ pa
  have ca1 : w2.cell? ⟨ga, 1, none⟩ = some (.int .i64 na) := cell_of_row _ _ 1 _ _ _ pa
  have ca2 : w2.cell? ⟨ga, 2, none⟩ = some (.int .i64 qa) := cell_of_row _ _ 2 _ _ _ pa
  have ca3 : w2.cell? ⟨ga, 3, none⟩ = some (.slice aa la ca) := cell_of_row _ _ 3 _ _ _ pa
  have cw0 : w2.cell? ⟨gw, 0, none⟩ = some (.slice wa wn wk) := cell_of_row _ _ 0 _ _ _ pw
  have cw1 : w2.cell? ⟨gw, 1, none⟩ = some (.int .i64 L) := cell_of_row _ _ 1 _ _ _ pw
  cases FW with
  | false =>
    go_wp2_with fail
    go_ret
    exact ⟨rfl, bt⟩
  | true =>
  go_wp2_with fail
  refine (refRight_any _ wa wn wk L hnb).mono ?_
  rintro e w3 ⟨rfl, b3⟩
  clear ca0 ca1 ca2 ca3 cw0 cw1
  replace pa := (b3.block ga (Array.getElem?_eq_some_iff.1 pa).1).trans pa
  replace pw := (b3.block gw (Array.getElem?_eq_some_iff.1 pw).1).trans pw
  replace bt := below_then bt b3
  have ca0 : w3.cell? ⟨ga, 0, none⟩ = some (.int .i64 oa) := cell_of_row _ _ 0 _ _ _ pa
  have ca1 : w3.cell? ⟨ga, 1, none⟩ = some (.int .i64 na) := cell_of_row _ _ 1 _ _ _ pa
  have ca2 : w3.cell? ⟨ga, 2, none⟩ = some (.int .i64 qa) := cell_of_row _ _ 2 _ _ _ pa
  have ca3 : w3.cell? ⟨ga, 3, none⟩ = some (.slice aa la ca) := cell_of_row _ _ 3 _ _ _ pa
  have cw0 : w3.cell? ⟨gw, 0, none⟩ = some (.slice wa wn wk) := cell_of_row _ _ 0 _ _ _ pw
  have cw1 : w3.cell? ⟨gw, 1, none⟩ = some (.int .i64 L) := cell_of_row _ _ 1 _ _ _ pw
  have hRR : decide (1 ≤ wn ∧ 0 ≤ L ∧ L < wn) = decide (0 ≤ L ∧ L < wn) := by
    by_cases h : 0 ≤ L ∧ L < wn
    · rw [decide_eq_true h, decide_eq_true ⟨by omega, h⟩]
    · rw [decide_eq_false h, decide_eq_false (fun h2 => h h2.2)]
  rw [hRR]
  clear hRR
  have nR := right_any w3 wa wn wk L hnb
  by_cases hR : 0 ≤ L ∧ L < wn
  case neg =>
    rw [decide_eq_false hR] at nR ⊢
    go_wp2_with fail
    refine nR.mono ?_
    rintro e w4 ⟨rfl, b4⟩
    replace bt := below_then bt b4
    go_wp2_with fail
    go_ret
    exact ⟨rfl, bt⟩
  rw [decide_eq_true hR] at nR ⊢
  obtain ⟨hL0, hLn⟩ := hR
  obtain ⟨l, rfl⟩ : ∃ l : Nat, L = (l : Int) := ⟨L.toNat, by omega⟩
  have hl : l < wn := by omega
  clear hL0 hLn
  go_wp2_with fail
  refine nR.mono ?_
  rintro e w4 ⟨rfl, b4⟩
  clear nR
  clear ca0 ca1 ca2 ca3 cw0 cw1
  replace pa := (b4.block ga (Array.getElem?_eq_some_iff.1 pa).1).trans pa
  replace pw := (b4.block gw (Array.getElem?_eq_some_iff.1 pw).1).trans pw
  replace bt := below_then bt b4
  have ca0 : w4.cell? ⟨ga, 0, none⟩ = some (.int .i64 oa) := cell_of_row _ _ 0 _ _ _ pa
  have ca1 : w4.cell? ⟨ga, 1, none⟩ = some (.int .i64 na) := cell_of_row _ _ 1 _ _ _ pa
  have ca2 : w4.cell? ⟨ga, 2, none⟩ = some (.int .i64 qa) := cell_of_row _ _ 2 _ _ _ pa
  have ca3 : w4.cell? ⟨ga, 3, none⟩ = some (.slice aa la ca) := cell_of_row _ _ 3 _ _ _ pa
  have cw0 : w4.cell? ⟨gw, 0, none⟩ = some (.slice wa wn wk) := cell_of_row _ _ 0 _ _ _ pw
  have cw1 : w4.cell? ⟨gw, 1, none⟩ = some (.int .i64 (l : Nat)) := cell_of_row _ _ 1 _ _ _ pw
  go_wp2_with fail
  refine (formula_any _ ta _ 3 (hta.mono bt) (by decide)).mono ?_
  rintro e w5 ⟨⟨BA, rfl, hBA⟩, b5⟩
  clear ca0 ca1 ca2 ca3 cw0 cw1
  replace pa := (b5.block ga (Array.getElem?_eq_some_iff.1 pa).1).trans pa
  replace pw := (b5.block gw (Array.getElem?_eq_some_iff.1 pw).1).trans pw
  replace bt := below_then bt b5
  have ca0 : w5.cell? ⟨ga, 0, none⟩ = some (.int .i64 oa) := cell_of_row _ _ 0 _ _ _ pa
  have ca1 : w5.cell? ⟨ga, 1, none⟩ = some (.int .i64 na) := cell_of_row _ _ 1 _ _ _ pa
  have ca2 : w5.cell? ⟨ga, 2, none⟩ = some (.int .i64 qa) := cell_of_row _ _ 2 _ _ _ pa
  have ca3 : w5.cell? ⟨ga, 3, none⟩ = some (.slice aa la ca) := cell_of_row _ _ 3 _ _ _ pa
  have cw0 : w5.cell? ⟨gw, 0, none⟩ = some (.slice wa wn wk) := cell_of_row _ _ 0 _ _ _ pw
  have cw1 : w5.cell? ⟨gw, 1, none⟩ = some (.int .i64 (l : Nat)) := cell_of_row _ _ 1 _ _ _ pw
  cases BA with
  | false =>
    go_wp2_with fail
    go_ret
    exact ⟨rfl, bt⟩
  | true =>
  have HFA := Lib.hid (hBA rfl)
  clear hBA f1 f2
  have hwn : wn ≤ 20 := by omega
  go_upto_region 9 with fail
  clear ca0 ca1 ca2 ca3 cw0 cw1
  have bk : Below w5.heap.size w5 w5.drew := (Below.refl _ _).drew
  have btD := below_then bt bk
  have hT0 := hta.mono btD
  have hW0 := hr.mono btD
  have r0 : w5.drew.cell? ⟨ga, 0, none⟩ = some (.int .i64 oa) := cell_of_row _ _ 0 _ _ _ pa
  have r1 : w5.drew.cell? ⟨ga, 1, none⟩ = some (.int .i64 na) := cell_of_row _ _ 1 _ _ _ pa
  have r2 : w5.drew.cell? ⟨ga, 2, none⟩ = some (.int .i64 qa) := cell_of_row _ _ 2 _ _ _ pa
  have r3 : w5.drew.cell? ⟨ga, 3, none⟩ = some (.slice aa la ca) := cell_of_row _ _ 3 _ _ _ pa
  have r4 : w5.drew.cell? ⟨gw, 0, none⟩ = some (.slice wa wn wk) := cell_of_row _ _ 0 _ _ _ pw
  have r5 : w5.drew.cell? ⟨gw, 1, none⟩ = some (.int .i64 (l : Nat)) := cell_of_row _ _ 1 _ _ _ pw
  go_region_held3 (fun w' => w'.cell? ⟨ga, 0, none⟩ = some (.int .i64 oa) ∧ w'.cell? ⟨ga, 1, none⟩ = some (.int .i64 na) ∧ w'.cell? ⟨ga, 2, none⟩ = some (.int .i64 qa) ∧ w'.cell? ⟨ga, 3, none⟩ = some (.slice aa la ca) ∧ w'.cell? ⟨gw, 0, none⟩ = some (.slice wa wn wk) ∧ w'.cell? ⟨gw, 1, none⟩ = some (.int .i64 (l : Nat)))
    (refine ⟨?_, ?_, ?_, ?_, ?_, ?_⟩ <;> with_reducible assumption)
    (first | (go_at_call 10; ((with_reducible refine (alls_at ta _ _ wa wn wk l row hT0 hW0 HFA.out (by omega) hl).mono ?_); rintro e ws ⟨⟨gx, rfl, _, rx⟩, bz⟩; (try (have zz := ry.mono bz; clear ry; have ry := zz; clear zz)); have zz := cell_next bz r0; clear r0; have r0 := zz; clear zz; have zz := cell_next bz r1; clear r1; have r1 := zz; clear zz; have zz := cell_next bz r2; clear r2; have r2 := zz; clear zz; have zz := cell_next bz r3; clear r3; have r3 := zz; clear zz; have zz := cell_next bz r4; clear r4; have r4 := zz; clear zz; have zz := cell_next bz r5; clear r5; have r5 := zz; clear zz; have zz := hT0.mono bz; clear hT0; have hT0 := zz; clear zz; have zz := hW0.mono bz; clear hW0; have hW0 := zz; clear zz; have zz := below_then btD bz; clear btD; have btD := zz; clear zz)) | (go_at_call 11; ((with_reducible refine (allr_at ta _ _ wa wn wk l row hT0 hW0 HFA.out (by omega) hl).mono ?_); rintro e ws ⟨⟨gy, rfl, _, ry⟩, bz⟩; (try (have zz := rx.mono bz; clear rx; have rx := zz; clear zz)); have zz := cell_next bz r0; clear r0; have r0 := zz; clear zz; have zz := cell_next bz r1; clear r1; have r1 := zz; clear zz; have zz := cell_next bz r2; clear r2; have r2 := zz; clear zz; have zz := cell_next bz r3; clear r3; have r3 := zz; clear zz; have zz := cell_next bz r4; clear r4; have r4 := zz; clear zz; have zz := cell_next bz r5; clear r5; have r5 := zz; clear zz; have zz := hT0.mono bz; clear hT0; have hT0 := zz; clear zz; have zz := hW0.mono bz; clear hW0; have hW0 := zz; clear zz; have zz := below_then btD bz; clear btD; have btD := zz; clear zz)) | (go_at_call 9; ((with_reducible refine (same_any _ _ _ wn _ _ (by omega) rx ry (fun _ _ => rfl)).mono ?_); rintro e ws ⟨rfl, bz⟩; have zz := cell_next bz r0; clear r0; have r0 := zz; clear zz; have zz := cell_next bz r1; clear r1; have r1 := zz; clear zz; have zz := cell_next bz r2; clear r2; have r2 := zz; clear zz; have zz := cell_next bz r3; clear r3; have r3 := zz; clear zz; have zz := cell_next bz r4; clear r4; have r4 := zz; clear zz; have zz := cell_next bz r5; clear r5; have r5 := zz; clear zz; have zz := hT0.mono bz; clear hT0; have hT0 := zz; clear zz; have zz := hW0.mono bz; clear hW0; have hW0 := zz; clear zz; have zz := below_then btD bz; clear btD; have btD := zz; clear zz)) | (go_at_call 12; ((with_reducible refine (holds_any _ ta _ wa wn wk l row hT0 hW0 HFA.out (by omega) hl).mono ?_); rintro e ws ⟨rfl, bz⟩; have zz := cell_next bz r0; clear r0; have r0 := zz; clear zz; have zz := cell_next bz r1; clear r1; have r1 := zz; clear zz; have zz := cell_next bz r2; clear r2; have r2 := zz; clear zz; have zz := cell_next bz r3; clear r3; have r3 := zz; clear zz; have zz := cell_next bz r4; clear r4; have r4 := zz; clear zz; have zz := cell_next bz r5; clear r5; have r5 := zz; clear zz; have zz := hT0.mono bz; clear hT0; have hT0 := zz; clear zz; have zz := hW0.mono bz; clear hW0; have hW0 := zz; clear zz; have zz := below_then btD bz; clear btD; have btD := zz; clear zz)) | (go_at_call 13; ((with_reducible refine (refholds_any _ ta _ wa wn wk l row hT0 hW0 HFA.out (by omega) hl).mono ?_); rintro e ws ⟨rfl, bz⟩; have zz := cell_next bz r0; clear r0; have r0 := zz; clear zz; have zz := cell_next bz r1; clear r1; have r1 := zz; clear zz; have zz := cell_next bz r2; clear r2; have r2 := zz; clear zz; have zz := cell_next bz r3; clear r3; have r3 := zz; clear zz; have zz := cell_next bz r4; clear r4; have r4 := zz; clear zz; have zz := cell_next bz r5; clear r5; have r5 := zz; clear zz; have zz := hT0.mono bz; clear hT0; have hT0 := zz; clear zz; have zz := hW0.mono bz; clear hW0; have hW0 := zz; clear zz; have zz := below_then btD bz; clear btD; have btD := zz; clear zz)))
  all_goals
    go_wp2_with fail
    go_ret
    exact ⟨rfl, btD⟩
end Go.Proofs.Ytdeanjphcggbpaa
