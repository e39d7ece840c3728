/- The head of all statements of layer 1. -/
import Derived.Test.YticbbldlhbooeaaBits8
namespace Go.Proofs.Yticbbldlhbooeaa
open Go.RowKit Go.Shelf
set_option linter.unusedVariables false

theorem below_new {w a : World} (h : Below w.heap.size w a) (o : Obj) : Below w.heap.size w (a.alloc o) := h.alloc h.size o
set_option maxHeartbeats 8000000 in
theorem shown_any (w : World) : Calls Try.prog 10 #[] w fun e w' => e = .returned (.bool true) ∧ Below w.heap.size w w' := by
  have p1 : putS [] 5 3 = ([1, 0, 1], 0) := by decide +kernel
  have p2 : putS [1, 0, 1] 1 2 = ([1, 0, 1, 0, 1], 0) := by decide +kernel
  have t1 : takeS [1, 0, 1, 0, 1] 3 2 = (1, 0) := by decide +kernel
  have p3 : putS [1, 0, 1, 0, 1] 8 3 = ([1, 0, 1, 0, 1], 5) := by decide +kernel
  have p4 : putS [1, 0, 1, 0, 1] 0 65 = ([1, 0, 1, 0, 1], 1) := by decide +kernel
  have t2 : takeS [1, 0, 1, 0, 1] 4 2 = (0, 10) := by decide +kernel
  have HP1 := Lib.hid p1
  have HP2 := Lib.hid p2
  have HP3 := Lib.hid p3
  have HP4 := Lib.hid p4
  have HT1 := Lib.hid t1
  have HT2 := Lib.hid t2
  clear p1 p2 p3 p4 t1 t2
  have bA : IsBits [1, 0, 1] := by decide
  have bB : IsBits [1, 0, 1, 0, 1] := by decide
  go_enter Try.func10, Try.ntmps10
  go_wp2_with fail
  refine (put_any _ none 0 0 [] IsBits.nil (by simp) 5 (by omega) 3 (bytesNone _) _ _ HP1.out 0 rfl).mono ?_
  rintro e w1 ⟨a1, l1, c1, rfl, y1, b1⟩
  have x1 : BitsBox (w1.alloc (.cells #[.slice a1 l1 c1, .int .i64 3] 24)) w1.heap.size a1 l1 c1 3 := World.alloc_heap_new _ _
  have y1' := y1.mono ((Below.refl _ _).alloc (Nat.le_refl _) (.cells #[.slice a1 l1 c1, .int .i64 3] 24))
  go_wp2_with fail
  refine (put_any _ _ _ _ _ bA (by simp) 1 (by omega) 2 y1' _ _ HP2.out 3 rfl).mono ?_
  rintro e w2 ⟨a2, l2, c2, rfl, y2, b2⟩
  have x2 : BitsBox (w2.alloc (.cells #[.slice a2 l2 c2, .int .i64 5] 24)) w2.heap.size a2 l2 c2 5 := World.alloc_heap_new _ _
  have y2' := y2.mono ((Below.refl _ _).alloc (Nat.le_refl _) (.cells #[.slice a2 l2 c2, .int .i64 5] 24))
  have T2 : Two (w2.alloc (.cells #[.slice a2 l2 c2, .int .i64 5] 24)) w1.heap.size w2.heap.size a1 l1 c1 a2 l2 c2 := ⟨(x1.below b2).below ((Below.refl _ _).alloc (Nat.le_refl _) _), (y1'.mono b2).mono ((Below.refl _ _).alloc (Nat.le_refl _) _), x2, y2'⟩
  go_wp2_with fail
  refine (take_any _ _ _ _ _ bB (by simp) 3 2 T2.y2 _ _ HT1.out 5 rfl).mono ?_
  rintro e w3 ⟨rfl, b3⟩
  have T3 := T2.below b3
  have q0 := T3.x2.cell0
  have q1 := T3.x2.cell1
  go_wp2_with fail
  refine (put_any _ _ _ _ _ bB (by simp) 8 (by omega) 3 T3.y2 _ _ HP3.out 5 rfl).mono ?_
  rintro e w4 ⟨a4, l4, c4, rfl, y4, b4⟩
  have T4 := T3.below b4
  have q0 := T4.x2.cell0
  have q1 := T4.x2.cell1
  have g4 := T4.lt2
  have T4' := T4.below ((Below.refl _ _).alloc (Nat.le_refl _) (.cells #[.slice a4 l4 c4, .int .i64 5] 24))
  go_wp2_with fail
  refine (put_any _ _ _ _ _ bB (by simp) 0 (by omega) 65 T4'.y2 _ _ HP4.out 5 rfl).mono ?_
  rintro e w5 ⟨a5, l5, c5, rfl, y5, b5⟩
  have T5 := T4'.below b5
  have q0 := T5.x2.cell0
  have q1 := T5.x2.cell1
  have g5 := T5.lt2
  have T5' := T5.below ((Below.refl _ _).alloc (Nat.le_refl _) (.cells #[.slice a5 l5 c5, .int .i64 5] 24))
  go_wp2_with fail
  refine (take_any _ _ _ _ _ bB (by simp) 4 2 T5'.y2 _ _ HT2.out 5 rfl).mono ?_
  rintro e w6 ⟨rfl, b6⟩
  have T6 := T5'.below b6
  have q0 := T6.x2.cell0
  have q1 := T6.x2.cell1
  have q2 := T6.x1.cell0
  have q3 := T6.x1.cell1
  have hconv := two_conv T6.drew
  have w5' : Lib.bitLen 5 = 3 := by decide +kernel
  have w0' : Lib.bitLen 0 = 0 := by decide +kernel
  go_wp2_with fail
  simp only [List.append_eq, List.cons_append, List.nil_append]
  have T6d := T6.drew
  have B6 : Below w.heap.size w w6.drew := (below_then (below_new (below_then (below_new (below_then (below_then (below_new (below_then (below_new b1 _) b2) _) b3) b4) _) b5) _) b6).drew
  go_region_held3 (fun w' => Two w' w1.heap.size w2.heap.size a1 l1 c1 a2 l2 c2 ∧ w'.cell? ⟨w2.heap.size, 0, none⟩ = some (.slice a2 l2 c2) ∧ w'.cell? ⟨w2.heap.size, 1, none⟩ = some (.int .i64 5) ∧ w'.cell? ⟨w1.heap.size, 0, none⟩ = some (.slice a1 l1 c1) ∧ w'.cell? ⟨w1.heap.size, 1, none⟩ = some (.int .i64 3) ∧ (convert 22 9 (.slice a2 l2 c2)).run Try.prog w' = .ok (.string ⟨#[168]⟩) w' ∧ Below w.heap.size w w')
    (first | exact ⟨T6d, q0, q1, q2, q3, hconv, B6⟩ | exact ⟨by assumption, by assumption, by assumption, by assumption, by assumption, by assumption, by assumption⟩)
    (first | (go_at_call 16; refine (wide_int _ _ (by omega) (by omega)).mono ?_; rintro e ww ⟨rfl, rfl⟩) | (go_at_call_of 13 a2; refine (right_two (by assumption)).mono ?_; rintro e wr ⟨rfl, br⟩; have Tr := Two.below (by assumption) br; have Trp0 := Tr.x2.cell0; have Trp1 := Tr.x2.cell1; have Trp2 := Tr.x1.cell0; have Trp3 := Tr.x1.cell1; have Trp4 := two_conv Tr; have Trp5 := below_then (by assumption : Below w.heap.size w _) br) | (go_at_call 13; refine (right_one _).mono ?_; rintro e wr ⟨rfl, br⟩; have Tr := Two.below (by assumption) br; have Trp0 := Tr.x2.cell0; have Trp1 := Tr.x2.cell1; have Trp2 := Tr.x1.cell0; have Trp3 := Tr.x1.cell1; have Trp4 := two_conv Tr; have Trp5 := below_then (by assumption : Below w.heap.size w _) br) | (go_at_call 22; refine (join_two (by assumption)).mono ?_; rintro e wj ⟨aj, lj, cj, rfl, yj, bj⟩; have jf := fun ww => field_bits ww aj lj cj 8; have Tj := Two.below (by assumption) bj; have Tjp0 := Tj.x2.cell0; have Tjp1 := Tj.x2.cell1; have Tjp2 := Tj.x1.cell0; have Tjp3 := Tj.x1.cell1; have Tjp4 := two_conv Tj; have Tjp5 := below_then (by assumption : Below w.heap.size w _) bj; try have yk := BytesAt.mono (l := pack [1, 0, 1, 1, 0, 1, 0, 1]) (by assumption) bj) | (go_at_call_of 14 a1; refine (same_two (by assumption)).mono ?_; rintro e ws ⟨rfl, bs⟩; have Ts := Two.below (by assumption) bs; have Tsp0 := Ts.x2.cell0; have Tsp1 := Ts.x2.cell1; have Tsp2 := Ts.x1.cell0; have Tsp3 := Ts.x1.cell1; have Tsp4 := two_conv Ts; have Tsp5 := below_then (by assumption : Below w.heap.size w _) bs) | (go_at_call 14; refine (same_joins (bs := pack [1, 0, 1, 1, 0, 1, 0, 1]) (by assumption) (by assumption)).mono ?_; rintro e ws ⟨rfl, bs⟩; have Ts := Two.below (by assumption) bs; have Tsp0 := Ts.x2.cell0; have Tsp1 := Ts.x2.cell1; have Tsp2 := Ts.x1.cell0; have Tsp3 := Ts.x1.cell1; have Tsp4 := two_conv Ts; have Tsp5 := below_then (by assumption : Below w.heap.size w _) bs))
  go_wp2
  go_ret
  exact ⟨rfl, by assumption⟩
end Go.Proofs.Yticbbldlhbooeaa
