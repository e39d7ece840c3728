/- The head of all statements of layer 2. -/
import Derived.Test.YtblipgmllpniaaaSchema13
namespace Go.Proofs.Ytblipgmllpniaaa
open Go.RowKit
set_option linter.unusedVariables false

theorem str_eq {w : World} {a : Option Addr} {n c : Nat} {l : List Nat} (h : BytesAt w a n c l) (s : ByteArray) (hs : strOfNums (l.map fun (c : Nat) => (c : Int)) = s) : (convert 24 9 (.slice a n c)).run Try.prog w = .ok (.string s) w := by
  rw [← hs]
  exact h.conv 24 5 9 Try.underlying24 Try.underlying5 Try.underlying9
set_option maxHeartbeats 4000000 in
theorem shown_any (w : World) : Calls Try.prog 9 #[] w fun e w' => e = .returned (.bool true) ∧ Below w.heap.size w w' := by
  have hr : ∀ f ∈ ([(0, 5), (-1, 1)] : List (Int × Int)), RightF f := by decide
  have hr4 : ∀ f ∈ ([(4, 4)] : List (Int × Int)), RightF f := by decide
  have i1 := Lib.hid (show inS [(0, 5), (-1, 1)] [5, 0] = 0 by decide +kernel)
  have i2 := Lib.hid (show inS [(0, 5), (-1, 1)] [6, 0] = 5 by decide +kernel)
  have i3 := Lib.hid (show inS [(0, 5), (-1, 1)] [1] = 1 by decide +kernel)
  have i4 := Lib.hid (show inS [(4, 4)] [4] = 0 by decide +kernel)
  have n1 := Lib.hid (show (if (0 : Int) = 0 then encS [(0, 5), (-1, 1)] [5, 0] else []) = [168] by decide +kernel)
  have n2 := Lib.hid (show (if (5 : Int) = 0 then encS [(0, 5), (-1, 1)] [6, 0] else []) = [] by decide +kernel)
  have n3 := Lib.hid (show (if (1 : Int) = 0 then encS [(0, 5), (-1, 1)] [1] else []) = [] by decide +kernel)
  have n4 := Lib.hid (show (if (0 : Int) = 0 then encS [(4, 4)] [4] else []) = [0] by decide +kernel)
  have d1 := Lib.hid (show decS [(0, 5), (-1, 1)] [168] = [5, 0] by decide +kernel)
  have d2 := Lib.hid (show decC [(0, 5), (-1, 1)] [168] = 0 by decide +kernel)
  have d3 := Lib.hid (show decS [(0, 5), (-1, 1)] [255] = [] by decide +kernel)
  have d4 := Lib.hid (show decC [(0, 5), (-1, 1)] [255] = 2 by decide +kernel)
  have e1 := Lib.hid (show bitsF [(0, 5), (-1, 1)] = 5 by decide +kernel)
  have e2 := Lib.hid (show bytesF [(0, 5), (-1, 1)] = 1 by decide +kernel)
  have e3 := Lib.hid (show wideF (0, 5) = 3 by decide +kernel)
  have e4 := Lib.hid (show decide (RightS2 [(0, 5), (-1, 1)]) = true by decide +kernel)
  have e5 := Lib.hid (show decide (RightS2 []) = false by decide +kernel)
  have k1 := Lib.hid (show strOfNums (([168] : List Nat).map fun (c : Nat) => (c : Int)) = ⟨#[168]⟩ by decide +kernel)
  have k2 := Lib.hid (show strOfNums (([0] : List Nat).map fun (c : Nat) => (c : Int)) = ⟨#[0]⟩ by decide +kernel)
  go_enter Try.func9, Try.ntmps9
  go_wp2_with fail
  have Bel := below_alloc w (.cells #[.int .i64 0, .int .i64 5, .int .i64 (-1), .int .i64 1] 38)
  have fs : FieldsAt (w.alloc (.cells #[.int .i64 0, .int .i64 5, .int .i64 (-1), .int .i64 1] 38)) (some ⟨w.heap.size, 0, none⟩) 2 [(0, 5), (-1, 1)] := fields_new w w.heap.size rfl [(0, 5), (-1, 1)] (by decide) 2 rfl (by omega) _ (by rfl)
  have fs := fs.mono (below_alloc _ (.cells #[.int .i64 5, .int .i64 0] 3))
  have Bel := below_new' Bel (.cells #[.int .i64 5, .int .i64 0] 3)
  have v1 : IntsAt ((w.alloc (.cells #[.int .i64 0, .int .i64 5, .int .i64 (-1), .int .i64 1] 38)).alloc (.cells #[.int .i64 5, .int .i64 0] 3)) (some ⟨w.heap.size + 1, 0, none⟩) 2 [5, 0] := ints_new _ (w.heap.size + 1) (by first | rfl | simp) [5, 0] 2 rfl (by omega) _ (by rfl)
  refine (schemaencode_any _ _ _ _ _ _ _ [(0, 5), (-1, 1)] [5, 0] hr (by omega) fs v1 _ _ i1.out n1.out).mono ?_
  rintro e w1 ⟨a1, l1, c1, rfl, y1, b1⟩
  have fs := fs.mono b1
  have v1 := v1.mono b1
  have Bel := below_then Bel b1
  go_wp2_with fail
  refine (schemadecode_any _ _ _ _ _ _ _ [(0, 5), (-1, 1)] [168] hr (by omega) fs y1 _ _ d1.out d2.out).mono ?_
  rintro e w2 ⟨a2, l2, c2, rfl, z2, b2⟩
  have fs := fs.mono b2
  have y1 := y1.mono b2
  have Bel := below_then Bel b2
  go_wp2_with fail
  have fs := fs.mono (below_alloc _ (.cells #[.int .u8 255] 5))
  have y1 := y1.mono (below_alloc _ (.cells #[.int .u8 255] 5))
  have z2 := z2.mono (below_alloc _ (.cells #[.int .u8 255] 5))
  have Bel := below_new' Bel (.cells #[.int .u8 255] 5)
  have y3 : BytesAt (w2.alloc (.cells #[.int .u8 255] 5)) (some ⟨w2.heap.size, 0, none⟩) 1 1 [255] := bytes_new _ w2.heap.size rfl [255] (by decide) 1 1 rfl (by omega) _ (by rfl)
  refine (schemadecode_any _ _ _ _ _ _ _ [(0, 5), (-1, 1)] [255] hr (by omega) fs y3 _ _ d3.out d4.out).mono ?_
  rintro e w3 ⟨a3, l3, c3, rfl, z3, b3⟩
  have fs := fs.mono b3
  have y1 := y1.mono b3
  have z2 := z2.mono b3
  have y3 := y3.mono b3
  have Bel := below_then Bel b3
  go_wp2_with fail
  have fs := fs.mono (below_alloc _ (.cells #[.int .i64 6, .int .i64 0] 3))
  have y1 := y1.mono (below_alloc _ (.cells #[.int .i64 6, .int .i64 0] 3))
  have z2 := z2.mono (below_alloc _ (.cells #[.int .i64 6, .int .i64 0] 3))
  have Bel := below_new' Bel (.cells #[.int .i64 6, .int .i64 0] 3)
  have v4 : IntsAt (w3.alloc (.cells #[.int .i64 6, .int .i64 0] 3)) (some ⟨w3.heap.size, 0, none⟩) 2 [6, 0] := ints_new _ (w3.heap.size) (by first | rfl | simp) [6, 0] 2 rfl (by omega) _ (by rfl)
  refine (schemaencode_any _ _ _ _ _ _ _ [(0, 5), (-1, 1)] [6, 0] hr (by omega) fs v4 _ _ i2.out n2.out).mono ?_
  rintro e w4 ⟨a4, l4, c4, rfl, y4, b4⟩
  have fs := fs.mono b4
  have y1 := y1.mono b4
  have z2 := z2.mono b4
  have v4 := v4.mono b4
  have Bel := below_then Bel b4
  go_wp2_with fail
  have fs := fs.mono (below_alloc _ (.cells #[.int .i64 1] 3))
  have y1 := y1.mono (below_alloc _ (.cells #[.int .i64 1] 3))
  have z2 := z2.mono (below_alloc _ (.cells #[.int .i64 1] 3))
  have Bel := below_new' Bel (.cells #[.int .i64 1] 3)
  have v5 : IntsAt (w4.alloc (.cells #[.int .i64 1] 3)) (some ⟨w4.heap.size, 0, none⟩) 1 [1] := ints_new _ (w4.heap.size) (by first | rfl | simp) [1] 1 rfl (by omega) _ (by rfl)
  refine (schemaencode_any _ _ _ _ _ _ _ [(0, 5), (-1, 1)] [1] hr (by omega) fs v5 _ _ i3.out n3.out).mono ?_
  rintro e w5 ⟨a5, l5, c5, rfl, y5, b5⟩
  have fs := fs.mono b5
  have y1 := y1.mono b5
  have z2 := z2.mono b5
  have v5 := v5.mono b5
  have Bel := below_then Bel b5
  go_wp2_with fail
  have fs := fs.mono (below_alloc _ (.cells #[.int .i64 4, .int .i64 4] 38))
  have y1 := y1.mono (below_alloc _ (.cells #[.int .i64 4, .int .i64 4] 38))
  have z2 := z2.mono (below_alloc _ (.cells #[.int .i64 4, .int .i64 4] 38))
  have Bel := below_new' Bel (.cells #[.int .i64 4, .int .i64 4] 38)
  have f4 : FieldsAt (w5.alloc (.cells #[.int .i64 4, .int .i64 4] 38)) (some ⟨w5.heap.size, 0, none⟩) 1 [(4, 4)] := fields_new w5 w5.heap.size rfl [(4, 4)] (by decide) 1 rfl (by omega) _ (by rfl)
  have fs := fs.mono (below_alloc _ (.cells #[.int .i64 4] 3))
  have y1 := y1.mono (below_alloc _ (.cells #[.int .i64 4] 3))
  have z2 := z2.mono (below_alloc _ (.cells #[.int .i64 4] 3))
  have f4 := f4.mono (below_alloc _ (.cells #[.int .i64 4] 3))
  have Bel := below_new' Bel (.cells #[.int .i64 4] 3)
  have v6 : IntsAt ((w5.alloc (.cells #[.int .i64 4, .int .i64 4] 38)).alloc (.cells #[.int .i64 4] 3)) (some ⟨w5.heap.size + 1, 0, none⟩) 1 [4] := ints_new _ (w5.heap.size + 1) (by first | rfl | simp) [4] 1 rfl (by omega) _ (by rfl)
  refine (schemaencode_any _ _ _ _ _ _ _ [(4, 4)] [4] hr4 (by omega) f4 v6 _ _ i4.out n4.out).mono ?_
  rintro e w6 ⟨a6, l6, c6, rfl, y6, b6⟩
  have fs := fs.mono b6
  have y1 := y1.mono b6
  have z2 := z2.mono b6
  have f4 := f4.mono b6
  have v6 := v6.mono b6
  have Bel := below_then Bel b6
  have cv1 := str_eq y1 _ k1.out
  go_wp2_with fail
  have fs := fs.mono (below_alloc _ (.cells #[.int .i64 5, .int .i64 0] 3))
  have y1 := y1.mono (below_alloc _ (.cells #[.int .i64 5, .int .i64 0] 3))
  have z2 := z2.mono (below_alloc _ (.cells #[.int .i64 5, .int .i64 0] 3))
  have y6 := y6.mono (below_alloc _ (.cells #[.int .i64 5, .int .i64 0] 3))
  have Bel := below_new' Bel (.cells #[.int .i64 5, .int .i64 0] 3)
  have v7 : IntsAt (w6.alloc (.cells #[.int .i64 5, .int .i64 0] 3)) (some ⟨w6.heap.size, 0, none⟩) 2 [5, 0] := ints_new _ (w6.heap.size) (by first | rfl | simp) [5, 0] 2 rfl (by omega) _ (by rfl)
  refine (vec_any _ _ _ _ _ _ _ [5, 0] [5, 0] z2 v7).mono ?_
  rintro e w7 ⟨rfl, b7⟩
  have fs := fs.mono b7
  have y1 := y1.mono b7
  have z2 := z2.mono b7
  have y6 := y6.mono b7
  have v7 := v7.mono b7
  have Bel := below_then Bel b7
  rw [show decide (([5, 0] : List Int) = [5, 0]) = true from by decide]
  have cv2 := str_eq y6 _ k2.out
  go_wp2_with fail
  refine (schemabits_any _ _ _ _ [(0, 5), (-1, 1)] hr (by omega) fs).mono ?_
  rintro e w8 ⟨rfl, b8⟩
  have fs := fs.mono b8
  have y1 := y1.mono b8
  have z2 := z2.mono b8
  have y6 := y6.mono b8
  have Bel := below_then Bel b8
  rw [e1.out]
  go_wp2_with fail
  refine (schemabytes_any _ _ _ _ [(0, 5), (-1, 1)] hr (by omega) fs).mono ?_
  rintro e w9 ⟨rfl, b9⟩
  have fs := fs.mono b9
  have y1 := y1.mono b9
  have z2 := z2.mono b9
  have y6 := y6.mono b9
  have Bel := below_then Bel b9
  rw [e2.out]
  obtain ⟨bk, off, hfa, _, hcf⟩ := fs.at_.resolve_left (by omega)
  simp at hfa
  obtain ⟨rfl, rfl⟩ := hfa
  obtain ⟨q0, q1⟩ := hcf 0 (by omega)
  simp at q0 q1
  go_wp2_with fail
  refine (schemawide_any _ 0 5 (hr _ (by simp))).mono ?_
  rintro e w10 ⟨rfl, b10⟩
  have fs := fs.mono b10
  have y1 := y1.mono b10
  have z2 := z2.mono b10
  have y6 := y6.mono b10
  have Bel := below_then Bel b10
  rw [e3.out]
  go_wp2_with fail
  refine (schemain_any _ _ _ _ _ _ _ [(0, 5), (-1, 1)] [5, 0] (by omega) fs z2).mono ?_
  rintro e w11 ⟨rfl, b11⟩
  have fs := fs.mono b11
  have y1 := y1.mono b11
  have z2 := z2.mono b11
  have y6 := y6.mono b11
  have Bel := below_then Bel b11
  rw [i1.out]
  go_wp2_with fail
  refine (schemaright_any _ _ _ _ [(0, 5), (-1, 1)] fs).mono ?_
  rintro e w12 ⟨rfl, b12⟩
  have fs := fs.mono b12
  have y1 := y1.mono b12
  have z2 := z2.mono b12
  have y6 := y6.mono b12
  have Bel := below_then Bel b12
  rw [e4.out]
  go_wp2_with fail
  refine (schemaright_any _ none 0 0 [] ⟨rfl, by omega, by simp, .inl rfl⟩).mono ?_
  rintro e w13 ⟨rfl, b13⟩
  have fs := fs.mono b13
  have y1 := y1.mono b13
  have z2 := z2.mono b13
  have y6 := y6.mono b13
  have Bel := below_then Bel b13
  rw [e5.out]
  go_wp2
  go_ret
  exact ⟨rfl, Bel⟩
end Go.Proofs.Ytblipgmllpniaaa
