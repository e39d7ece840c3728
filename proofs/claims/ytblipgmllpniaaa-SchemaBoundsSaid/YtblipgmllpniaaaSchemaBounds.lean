/- SchemaBounds returns true. -/
import Derived.Test.YtblipgmllpniaaaSchemaHead
namespace Go.Proofs.Ytblipgmllpniaaa
open Go.RowKit
set_option linter.unusedVariables false

/-- A cell and what it holds. -/
structure CellIs (w : World) (b o : Nat) (v : Value) : Prop where
  lt : b < w.heap.size
  eq : w.cell? ⟨b, o, none⟩ = some v
theorem CellIs.mono {w w' : World} {b o : Nat} {v : Value} (h : CellIs w b o v) (hb : Below w.heap.size w w') : CellIs w' b o v :=
  ⟨Nat.lt_of_lt_of_le h.lt hb.size, (hb.cell (p := ⟨b, o, none⟩) h.lt).trans h.eq⟩
theorem inS_one (lo hi n : Int) : inS [(lo, hi)] [n] = if lo ≤ n ∧ n ≤ hi then 0 else 5 := by
  unfold inS
  rw [if_neg (by simp)]
  have e : AllIn [(lo, hi)] [n] ↔ lo ≤ n ∧ n ≤ hi := by
    unfold AllIn hasF
    simp
  by_cases h : lo ≤ n ∧ n ≤ hi
  · rw [if_pos h, if_pos (e.2 h)]
  · rw [if_neg h, if_neg (fun x => h (e.1 x))]
set_option maxHeartbeats 2000000 in
theorem bounds_lo (w : World) (lo : Int) (span : Nat) (hs : span < 4294967296) (k : Nat) (hk : (span : Int) % 65600 = (k : Int)) (hkb : k ≤ 65599) (l1 : -2147483648 ≤ lo) (l2 : lo ≤ 2147483647) (h1 : lo < -1073741824) :
    Calls Try.prog 7 #[.int .i32 lo, .int .u32 (span : Int)] w fun e w' => e = .returned (.bool true) ∧ Below w.heap.size w w' := by
  have d1 : decide (-1073741824 ≤ lo) = false := by simp; omega
  have hwf : ∀ f ∈ ([(lo, lo + (k : Int))] : List (Int × Int)), (-9223372036854775808 ≤ f.1 ∧ f.1 ≤ 9223372036854775807) ∧ (-9223372036854775808 ≤ f.2 ∧ f.2 ≤ 9223372036854775807) := by
    intro f hf
    obtain rfl := List.mem_singleton.1 hf
    simp only
    omega
  have hR : decide (RightS2 [(lo, lo + (k : Int))]) = false := by
    unfold RightS2 RightF
    simp
    omega
  have HR := Lib.hid hR
  have HWF := Lib.hid hwf
  clear hR hwf
  go_enter Try.func7, Try.ntmps7
  go_wp2_with fail
  refine (shown_any _).mono ?_
  rintro e w1 ⟨rfl, b1⟩
  have Bel := b1
  go_wp2_with fail
  have Bel := below_new' Bel (.cells #[.int .i64 lo, .int .i64 (lo + (k : Int))] 38)
  have c0 : CellIs (w1.alloc (.cells #[.int .i64 lo, .int .i64 (lo + (k : Int))] 38)) w1.heap.size 0 (.int .i64 lo) := ⟨by simp, by simp [go_sem]⟩
  have c1 : CellIs (w1.alloc (.cells #[.int .i64 lo, .int .i64 (lo + (k : Int))] 38)) w1.heap.size 1 (.int .i64 (lo + (k : Int))) := ⟨by simp, by simp [go_sem]⟩
  have c0 := c0.mono (below_alloc _ (.cells #[.int .i64 lo, .int .i64 (lo + (k : Int))] 38))
  have c1 := c1.mono (below_alloc _ (.cells #[.int .i64 lo, .int .i64 (lo + (k : Int))] 38))
  have c0_ := c0.eq
  have c1_ := c1.eq
  have Bel := below_new' Bel (.cells #[.int .i64 lo, .int .i64 (lo + (k : Int))] 38)
  have fs : FieldsAt ((w1.alloc (.cells #[.int .i64 lo, .int .i64 (lo + (k : Int))] 38)).alloc (.cells #[.int .i64 lo, .int .i64 (lo + (k : Int))] 38)) (some ⟨w1.heap.size + 1, 0, none⟩) 1 [(lo, lo + (k : Int))] := fields_new _ (w1.heap.size + 1) (by first | rfl | simp) [(lo, lo + (k : Int))] HWF.out 1 rfl (by omega) _ (by rfl)
  refine (schemaright_any _ _ _ _ [(lo, lo + (k : Int))] fs).mono ?_
  rintro e w2 ⟨rfl, b2⟩
  have fs := fs.mono b2
  have c0 := c0.mono b2
  have c1 := c1.mono b2
  have c0_ := c0.eq
  have c1_ := c1.eq
  have Bel := below_then Bel b2
  rw [HR.out]
  go_wp2
  go_ret
  exact ⟨rfl, Bel⟩
set_option maxHeartbeats 2000000 in
theorem bounds_hi (w : World) (lo : Int) (span : Nat) (hs : span < 4294967296) (k : Nat) (hk : (span : Int) % 65600 = (k : Int)) (hkb : k ≤ 65599) (l1 : -2147483648 ≤ lo) (l2 : lo ≤ 2147483647) (h1 : -1073741824 ≤ lo) (h2 : 1073741824 < lo + (k : Int)) :
    Calls Try.prog 7 #[.int .i32 lo, .int .u32 (span : Int)] w fun e w' => e = .returned (.bool true) ∧ Below w.heap.size w w' := by
  have d1 : decide (-1073741824 ≤ lo) = true := by simp; omega
  have d2 : decide (lo + (k : Int) ≤ 1073741824) = false := by simp; omega
  have hwf : ∀ f ∈ ([(lo, lo + (k : Int))] : List (Int × Int)), (-9223372036854775808 ≤ f.1 ∧ f.1 ≤ 9223372036854775807) ∧ (-9223372036854775808 ≤ f.2 ∧ f.2 ≤ 9223372036854775807) := by
    intro f hf
    obtain rfl := List.mem_singleton.1 hf
    simp only
    omega
  have hR : decide (RightS2 [(lo, lo + (k : Int))]) = false := by
    unfold RightS2 RightF
    simp
    omega
  have HR := Lib.hid hR
  have HWF := Lib.hid hwf
  clear hR hwf
  go_enter Try.func7, Try.ntmps7
  go_wp2_with fail
  refine (shown_any _).mono ?_
  rintro e w1 ⟨rfl, b1⟩
  have Bel := b1
  go_wp2_with fail
  have Bel := below_new' Bel (.cells #[.int .i64 lo, .int .i64 (lo + (k : Int))] 38)
  have c0 : CellIs (w1.alloc (.cells #[.int .i64 lo, .int .i64 (lo + (k : Int))] 38)) w1.heap.size 0 (.int .i64 lo) := ⟨by simp, by simp [go_sem]⟩
  have c1 : CellIs (w1.alloc (.cells #[.int .i64 lo, .int .i64 (lo + (k : Int))] 38)) w1.heap.size 1 (.int .i64 (lo + (k : Int))) := ⟨by simp, by simp [go_sem]⟩
  have c0 := c0.mono (below_alloc _ (.cells #[.int .i64 lo, .int .i64 (lo + (k : Int))] 38))
  have c1 := c1.mono (below_alloc _ (.cells #[.int .i64 lo, .int .i64 (lo + (k : Int))] 38))
  have c0_ := c0.eq
  have c1_ := c1.eq
  have Bel := below_new' Bel (.cells #[.int .i64 lo, .int .i64 (lo + (k : Int))] 38)
  have fs : FieldsAt ((w1.alloc (.cells #[.int .i64 lo, .int .i64 (lo + (k : Int))] 38)).alloc (.cells #[.int .i64 lo, .int .i64 (lo + (k : Int))] 38)) (some ⟨w1.heap.size + 1, 0, none⟩) 1 [(lo, lo + (k : Int))] := fields_new _ (w1.heap.size + 1) (by first | rfl | simp) [(lo, lo + (k : Int))] HWF.out 1 rfl (by omega) _ (by rfl)
  refine (schemaright_any _ _ _ _ [(lo, lo + (k : Int))] fs).mono ?_
  rintro e w2 ⟨rfl, b2⟩
  have fs := fs.mono b2
  have c0 := c0.mono b2
  have c1 := c1.mono b2
  have c0_ := c0.eq
  have c1_ := c1.eq
  have Bel := below_then Bel b2
  rw [HR.out]
  go_wp2
  go_ret
  exact ⟨rfl, Bel⟩
set_option maxHeartbeats 2000000 in
theorem bounds_wide (w : World) (lo : Int) (span : Nat) (hs : span < 4294967296) (k : Nat) (hk : (span : Int) % 65600 = (k : Int)) (hkb : k ≤ 65599) (l1 : -2147483648 ≤ lo) (l2 : lo ≤ 2147483647) (h1 : -1073741824 ≤ lo) (h2 : lo + (k : Int) ≤ 1073741824) (h3 : 65535 < k) :
    Calls Try.prog 7 #[.int .i32 lo, .int .u32 (span : Int)] w fun e w' => e = .returned (.bool true) ∧ Below w.heap.size w w' := by
  have d1 : decide (-1073741824 ≤ lo) = true := by simp; omega
  have d2 : decide (lo + (k : Int) ≤ 1073741824) = true := by simp; omega
  have d3 : decide ((k : Int) ≤ 65535) = false := by simp; omega
  have d4 : decide (k ≤ 65535) = false := by simp; omega
  have hwf : ∀ f ∈ ([(lo, lo + (k : Int))] : List (Int × Int)), (-9223372036854775808 ≤ f.1 ∧ f.1 ≤ 9223372036854775807) ∧ (-9223372036854775808 ≤ f.2 ∧ f.2 ≤ 9223372036854775807) := by
    intro f hf
    obtain rfl := List.mem_singleton.1 hf
    simp only
    omega
  have hR : decide (RightS2 [(lo, lo + (k : Int))]) = false := by
    unfold RightS2 RightF
    simp
    omega
  have HR := Lib.hid hR
  have HWF := Lib.hid hwf
  clear hR hwf
  go_enter Try.func7, Try.ntmps7
  go_wp2_with fail
  refine (shown_any _).mono ?_
  rintro e w1 ⟨rfl, b1⟩
  have Bel := b1
  go_wp2_with fail
  have Bel := below_new' Bel (.cells #[.int .i64 lo, .int .i64 (lo + (k : Int))] 38)
  have c0 : CellIs (w1.alloc (.cells #[.int .i64 lo, .int .i64 (lo + (k : Int))] 38)) w1.heap.size 0 (.int .i64 lo) := ⟨by simp, by simp [go_sem]⟩
  have c1 : CellIs (w1.alloc (.cells #[.int .i64 lo, .int .i64 (lo + (k : Int))] 38)) w1.heap.size 1 (.int .i64 (lo + (k : Int))) := ⟨by simp, by simp [go_sem]⟩
  have c0 := c0.mono (below_alloc _ (.cells #[.int .i64 lo, .int .i64 (lo + (k : Int))] 38))
  have c1 := c1.mono (below_alloc _ (.cells #[.int .i64 lo, .int .i64 (lo + (k : Int))] 38))
  have c0_ := c0.eq
  have c1_ := c1.eq
  have Bel := below_new' Bel (.cells #[.int .i64 lo, .int .i64 (lo + (k : Int))] 38)
  have fs : FieldsAt ((w1.alloc (.cells #[.int .i64 lo, .int .i64 (lo + (k : Int))] 38)).alloc (.cells #[.int .i64 lo, .int .i64 (lo + (k : Int))] 38)) (some ⟨w1.heap.size + 1, 0, none⟩) 1 [(lo, lo + (k : Int))] := fields_new _ (w1.heap.size + 1) (by first | rfl | simp) [(lo, lo + (k : Int))] HWF.out 1 rfl (by omega) _ (by rfl)
  refine (schemaright_any _ _ _ _ [(lo, lo + (k : Int))] fs).mono ?_
  rintro e w2 ⟨rfl, b2⟩
  have fs := fs.mono b2
  have c0 := c0.mono b2
  have c1 := c1.mono b2
  have c0_ := c0.eq
  have c1_ := c1.eq
  have Bel := below_then Bel b2
  rw [HR.out]
  go_wp2
  go_ret
  exact ⟨rfl, Bel⟩
set_option maxHeartbeats 2000000 in
theorem bounds_may (w : World) (lo : Int) (span : Nat) (hs : span < 4294967296) (k : Nat) (hk : (span : Int) % 65600 = (k : Int)) (hkb : k ≤ 65599) (l1 : -2147483648 ≤ lo) (l2 : lo ≤ 2147483647) (h1 : -1073741824 ≤ lo) (h2 : lo + (k : Int) ≤ 1073741824) (h3 : k ≤ 65535) :
    Calls Try.prog 7 #[.int .i32 lo, .int .u32 (span : Int)] w fun e w' => e = .returned (.bool true) ∧ Below w.heap.size w w' := by
  have d1 : decide (-1073741824 ≤ lo) = true := by simp; omega
  have d2 : decide (lo + (k : Int) ≤ 1073741824) = true := by simp; omega
  have d3 : decide ((k : Int) ≤ 65535) = true := by simp; omega
  have d4 : decide (k ≤ 65535) = true := by simp; omega
  have hwf : ∀ f ∈ ([(lo, lo + (k : Int))] : List (Int × Int)), (-9223372036854775808 ≤ f.1 ∧ f.1 ≤ 9223372036854775807) ∧ (-9223372036854775808 ≤ f.2 ∧ f.2 ≤ 9223372036854775807) := by
    intro f hf
    obtain rfl := List.mem_singleton.1 hf
    simp only
    omega
  have i1 := Lib.hid (show inS [(lo, lo + (k : Int))] [lo] = 0 by rw [inS_one, if_pos (by omega)])
  have i2 := Lib.hid (show inS [(lo, lo + (k : Int))] [lo + (k : Int)] = 0 by rw [inS_one, if_pos (by omega)])
  have i3 := Lib.hid (show inS [(lo, lo + (k : Int))] [lo - 1] = 5 by rw [inS_one, if_neg (by omega)])
  have i4 := Lib.hid (show inS [(lo, lo + (k : Int))] [lo + (k : Int) + 1] = 5 by rw [inS_one, if_neg (by omega)])
  have i5 := Lib.hid (show inS [(lo, lo + (k : Int))] [] = 1 by unfold inS; rw [if_pos (by simp)])
  have i6 := Lib.hid (show inS [(lo, lo + (k : Int))] [lo, lo] = 1 by unfold inS; rw [if_pos (by simp)])
  have hR : decide (RightS2 [(lo, lo + (k : Int))]) = true := by
    unfold RightS2 RightF
    simp
    omega
  have HR := Lib.hid hR
  have HWF := Lib.hid hwf
  clear hR hwf
  go_enter Try.func7, Try.ntmps7
  go_wp2_with fail
  refine (shown_any _).mono ?_
  rintro e w1 ⟨rfl, b1⟩
  have Bel := b1
  go_wp2_with fail
  have Bel := below_new' Bel (.cells #[.int .i64 lo, .int .i64 (lo + (k : Int))] 38)
  have c0 : CellIs (w1.alloc (.cells #[.int .i64 lo, .int .i64 (lo + (k : Int))] 38)) w1.heap.size 0 (.int .i64 lo) := ⟨by simp, by simp [go_sem]⟩
  have c1 : CellIs (w1.alloc (.cells #[.int .i64 lo, .int .i64 (lo + (k : Int))] 38)) w1.heap.size 1 (.int .i64 (lo + (k : Int))) := ⟨by simp, by simp [go_sem]⟩
  have c0 := c0.mono (below_alloc _ (.cells #[.int .i64 lo, .int .i64 (lo + (k : Int))] 38))
  have c1 := c1.mono (below_alloc _ (.cells #[.int .i64 lo, .int .i64 (lo + (k : Int))] 38))
  have c0_ := c0.eq
  have c1_ := c1.eq
  have Bel := below_new' Bel (.cells #[.int .i64 lo, .int .i64 (lo + (k : Int))] 38)
  have fs : FieldsAt ((w1.alloc (.cells #[.int .i64 lo, .int .i64 (lo + (k : Int))] 38)).alloc (.cells #[.int .i64 lo, .int .i64 (lo + (k : Int))] 38)) (some ⟨w1.heap.size + 1, 0, none⟩) 1 [(lo, lo + (k : Int))] := fields_new _ (w1.heap.size + 1) (by first | rfl | simp) [(lo, lo + (k : Int))] HWF.out 1 rfl (by omega) _ (by rfl)
  refine (schemaright_any _ _ _ _ [(lo, lo + (k : Int))] fs).mono ?_
  rintro e w2 ⟨rfl, b2⟩
  have fs := fs.mono b2
  have c0 := c0.mono b2
  have c1 := c1.mono b2
  have c0_ := c0.eq
  have c1_ := c1.eq
  have Bel := below_then Bel b2
  rw [HR.out]
  go_wp2_with fail
  have fs := fs.mono (below_alloc _ (.cells #[.int .i64 (lo)] 3))
  have c0 := c0.mono (below_alloc _ (.cells #[.int .i64 (lo)] 3))
  have c1 := c1.mono (below_alloc _ (.cells #[.int .i64 (lo)] 3))
  have c0_ := c0.eq
  have c1_ := c1.eq
  have Bel := below_new' Bel (.cells #[.int .i64 (lo)] 3)
  have v : IntsAt (w2.alloc (.cells #[.int .i64 (lo)] 3)) (some ⟨w2.heap.size, 0, none⟩) 1 [lo] := ints_new _ w2.heap.size rfl [lo] 1 rfl (by omega) _ (by rfl)
  refine (schemain_any _ _ _ _ _ _ _ [(lo, lo + (k : Int))] [lo] (by omega) fs v).mono ?_
  rintro e w3 ⟨rfl, b3⟩
  have fs := fs.mono b3
  have v := v.mono b3
  have c0 := c0.mono b3
  have c1 := c1.mono b3
  have c0_ := c0.eq
  have c1_ := c1.eq
  have Bel := below_then Bel b3
  rw [i1.out]
  go_wp2_with fail
  have fs := fs.mono (below_alloc _ (.cells #[.int .i64 (lo + (k : Int))] 3))
  have c0 := c0.mono (below_alloc _ (.cells #[.int .i64 (lo + (k : Int))] 3))
  have c1 := c1.mono (below_alloc _ (.cells #[.int .i64 (lo + (k : Int))] 3))
  have c0_ := c0.eq
  have c1_ := c1.eq
  have Bel := below_new' Bel (.cells #[.int .i64 (lo + (k : Int))] 3)
  have v : IntsAt (w3.alloc (.cells #[.int .i64 (lo + (k : Int))] 3)) (some ⟨w3.heap.size, 0, none⟩) 1 [lo + (k : Int)] := ints_new _ w3.heap.size rfl [lo + (k : Int)] 1 rfl (by omega) _ (by rfl)
  refine (schemain_any _ _ _ _ _ _ _ [(lo, lo + (k : Int))] [lo + (k : Int)] (by omega) fs v).mono ?_
  rintro e w4 ⟨rfl, b4⟩
  have fs := fs.mono b4
  have v := v.mono b4
  have c0 := c0.mono b4
  have c1 := c1.mono b4
  have c0_ := c0.eq
  have c1_ := c1.eq
  have Bel := below_then Bel b4
  rw [i2.out]
  go_wp2_with fail
  have fs := fs.mono (below_alloc _ (.cells #[.int .i64 (lo - 1)] 3))
  have c0 := c0.mono (below_alloc _ (.cells #[.int .i64 (lo - 1)] 3))
  have c1 := c1.mono (below_alloc _ (.cells #[.int .i64 (lo - 1)] 3))
  have c0_ := c0.eq
  have c1_ := c1.eq
  have Bel := below_new' Bel (.cells #[.int .i64 (lo - 1)] 3)
  have v : IntsAt (w4.alloc (.cells #[.int .i64 (lo - 1)] 3)) (some ⟨w4.heap.size, 0, none⟩) 1 [lo - 1] := ints_new _ w4.heap.size rfl [lo - 1] 1 rfl (by omega) _ (by rfl)
  refine (schemain_any _ _ _ _ _ _ _ [(lo, lo + (k : Int))] [lo - 1] (by omega) fs v).mono ?_
  rintro e w5 ⟨rfl, b5⟩
  have fs := fs.mono b5
  have v := v.mono b5
  have c0 := c0.mono b5
  have c1 := c1.mono b5
  have c0_ := c0.eq
  have c1_ := c1.eq
  have Bel := below_then Bel b5
  rw [i3.out]
  go_wp2_with fail
  have fs := fs.mono (below_alloc _ (.cells #[.int .i64 (lo + (k : Int) + 1)] 3))
  have c0 := c0.mono (below_alloc _ (.cells #[.int .i64 (lo + (k : Int) + 1)] 3))
  have c1 := c1.mono (below_alloc _ (.cells #[.int .i64 (lo + (k : Int) + 1)] 3))
  have c0_ := c0.eq
  have c1_ := c1.eq
  have Bel := below_new' Bel (.cells #[.int .i64 (lo + (k : Int) + 1)] 3)
  have v : IntsAt (w5.alloc (.cells #[.int .i64 (lo + (k : Int) + 1)] 3)) (some ⟨w5.heap.size, 0, none⟩) 1 [lo + (k : Int) + 1] := ints_new _ w5.heap.size rfl [lo + (k : Int) + 1] 1 rfl (by omega) _ (by rfl)
  refine (schemain_any _ _ _ _ _ _ _ [(lo, lo + (k : Int))] [lo + (k : Int) + 1] (by omega) fs v).mono ?_
  rintro e w6 ⟨rfl, b6⟩
  have fs := fs.mono b6
  have v := v.mono b6
  have c0 := c0.mono b6
  have c1 := c1.mono b6
  have c0_ := c0.eq
  have c1_ := c1.eq
  have Bel := below_then Bel b6
  rw [i4.out]
  go_wp2_with fail
  refine (schemain_any _ _ _ _ _ _ _ [(lo, lo + (k : Int))] [] (by omega) fs (intsNone _)).mono ?_
  rintro e w7 ⟨rfl, b7⟩
  have fs := fs.mono b7
  have c0 := c0.mono b7
  have c1 := c1.mono b7
  have c0_ := c0.eq
  have c1_ := c1.eq
  have Bel := below_then Bel b7
  rw [i5.out]
  go_wp2_with fail
  have fs := fs.mono (below_alloc _ (.cells #[.int .i64 (lo), .int .i64 (lo)] 3))
  have c0 := c0.mono (below_alloc _ (.cells #[.int .i64 (lo), .int .i64 (lo)] 3))
  have c1 := c1.mono (below_alloc _ (.cells #[.int .i64 (lo), .int .i64 (lo)] 3))
  have c0_ := c0.eq
  have c1_ := c1.eq
  have Bel := below_new' Bel (.cells #[.int .i64 (lo), .int .i64 (lo)] 3)
  have v : IntsAt (w7.alloc (.cells #[.int .i64 (lo), .int .i64 (lo)] 3)) (some ⟨w7.heap.size, 0, none⟩) 2 [lo, lo] := ints_new _ w7.heap.size rfl [lo, lo] 2 rfl (by omega) _ (by rfl)
  refine (schemain_any _ _ _ _ _ _ _ [(lo, lo + (k : Int))] [lo, lo] (by omega) fs v).mono ?_
  rintro e w8 ⟨rfl, b8⟩
  have fs := fs.mono b8
  have v := v.mono b8
  have c0 := c0.mono b8
  have c1 := c1.mono b8
  have c0_ := c0.eq
  have c1_ := c1.eq
  have Bel := below_then Bel b8
  rw [i6.out]
  go_wp2
  go_ret
  exact ⟨rfl, Bel⟩
theorem schemabounds_any (w : World) (lo : Int) (span : Nat) (hs : span < 4294967296) (l1 : -2147483648 ≤ lo) (l2 : lo ≤ 2147483647) :
    Calls Try.prog 7 #[.int .i32 lo, .int .u32 (span : Int)] w fun e w' => e = .returned (.bool true) ∧ Below w.heap.size w w' := by
  obtain ⟨k, hk⟩ : ∃ k : Nat, (span : Int) % 65600 = (k : Int) := ⟨span % 65600, by omega⟩
  have hkb : k ≤ 65599 := by omega
  by_cases h1 : lo < -1073741824
  · exact bounds_lo w lo span hs k hk hkb l1 l2 h1
  by_cases h2 : 1073741824 < lo + (k : Int)
  · exact bounds_hi w lo span hs k hk hkb l1 l2 (by omega) h2
  by_cases h3 : 65535 < k
  · exact bounds_wide w lo span hs k hk hkb l1 l2 (by omega) (by omega) h3
  · exact bounds_may w lo span hs k hk hkb l1 l2 (by omega) (by omega) (by omega)
end Go.Proofs.Ytblipgmllpniaaa
