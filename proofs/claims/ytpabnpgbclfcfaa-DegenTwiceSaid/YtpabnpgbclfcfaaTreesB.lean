/- The document's Deep, Many, Few and May on trees (by gen17a.py). -/
import Derived.Test.YtpabnpgbclfcfaaTrees
import Derived.Deep.Cut
import Derived.BigQuiet
import Derived.Deep.RegionWith
import Derived.WalkMore
import Derived.Deep.CutBlock
namespace Go.Proofs.Ytpabnpgbclfcfaa
open Go.RowKit
set_option linter.unusedVariables false
set_option linter.unusedSimpArgs false
/-- How many parts a tree of its kind has. -/
def arity (op : Int) : Nat := if op = 1 ∨ op = 2 ∨ op = 13 ∨ op = 14 then 0 else if op = 6 ∨ op = 15 ∨ op = 20 ∨ op = 21 ∨ op = 22 then 1 else 2
/-- A tree that may be read. -/
def MayP : T → Prop
  | .nil => False
  | .node op n pl len sub => 1 ≤ op ∧ op ≤ 24 ∧ len = arity op ∧ ∀ i, i < len → MayP (sub i)
theorem below_then {w w1 w2 : World} (a : Below w.heap.size w w1) (b : Below w1.heap.size w1 w2) : Below w.heap.size w w2 := a.trans (b.mono a.size)
def AnyInt (e : Ending) : Prop := ∃ r : Int, e = .returned (.int .i64 r) ∧ -9223372036854775808 ≤ r ∧ r ≤ 9223372036854775807
set_option maxRecDepth 20000 in
theorem deep_any : ∀ (t : T) (w : World) (v : Value) (most : Int), TreeAt w t v → -9223372036854775808 ≤ most ∧ most ≤ 9223372036854775807 →
    Calls Try.prog 24 #[v, .int .i64 most] w fun e w' => AnyInt e ∧ Below w.heap.size w w' := by
  intro t
  induction t with
  | nil => exact fun w v most h => h.elim
  | node op n pl len sub ih =>
    rintro w v most ⟨a, cap, rfl, ho, hn, hp, hl, hnone, hat⟩ hmost
    have A := (Below.refl w.heap.size w).alloc (Nat.le_refl _) (.cells #[.int .i64 op, .int .i64 n, .int .i64 pl, .slice a len cap] 40)
    have pt : (w.alloc (.cells #[.int .i64 op, .int .i64 n, .int .i64 pl, .slice a len cap] 40)).heap[w.heap.size]? = some (.cells #[.int .i64 op, .int .i64 n, .int .i64 pl, .slice a len cap] 40 (0, 0)) := heap_alloc_new _ _
    go_enter Try.func24, Try.ntmps24
    go_upto_region 1 with fail
    obtain ⟨v1, hv⟩ : ∃ v, w.alloc (.cells #[.int .i64 op, .int .i64 n, .int .i64 pl, .slice a len cap] 40) = v := ⟨_, rfl⟩
    obtain ⟨gt, hg⟩ : ∃ g, w.heap.size = g := ⟨_, rfl⟩
    rw [hv] at pt A ⊢
    rw [hg] at pt ⊢
    have bt := A
    have hgw : w.heap.size ≤ gt := Nat.le_of_eq hg
    clear hv hg A
    go_wp2_with fail
    go_loopw [5, 6] (fun d i w' => ∃ (j : Nat) (D : Int), j ≤ len ∧ i = .int .i64 (j : Nat) ∧ d = .int .i64 D ∧ (-9223372036854775808 ≤ D ∧ D ≤ 9223372036854775807) ∧ w'.heap[gt]? = some (.cells #[.int .i64 op, .int .i64 n, .int .i64 pl, .slice a len cap] 40 (0, 0)) ∧ Below w.heap.size w w') (fun d i _ => len - (intOf i).toNat)
    case atStart => exact ⟨0, 1, Nat.zero_le _, rfl, rfl, by omega, pt, bt⟩
    case round =>
      clear pt bt
      obtain ⟨j, D, hj, rfl, rfl, hD, pt, bt⟩ := hrel
      have c3 : wr.cell? ⟨gt, 3, none⟩ = some (.slice a len cap) := cell_of_row _ _ 3 _ _ _ pt
      by_cases hjl : j < len
      · have f1 : decide (j < len) = true := by simpa using hjl
        by_cases hm : 1 < most
        · have f2 : decide (1 < most) = true := by simpa using hm
          obtain ⟨b, off, rfl, hlt, hi⟩ := hat.resolve_left (by omega)
          obtain ⟨o', n', p', a', l', c', g0, g1, g2, g3, g4⟩ := hi j hjl
          have y0 : wr.cell? ⟨b, off + j * 4, none⟩ = some (.int .i64 o') := (bt.cell (p := ⟨b, _, none⟩) hlt).trans g0
          have y1 : wr.cell? ⟨b, off + j * 4 + 1, none⟩ = some (.int .i64 n') := (bt.cell (p := ⟨b, _, none⟩) hlt).trans g1
          have y2 : wr.cell? ⟨b, off + j * 4 + 2, none⟩ = some (.int .i64 p') := (bt.cell (p := ⟨b, _, none⟩) hlt).trans g2
          have y3 : wr.cell? ⟨b, off + j * 4 + 3, none⟩ = some (.slice a' l' c') := (bt.cell (p := ⟨b, _, none⟩) hlt).trans g3
          go_wp2_with fail
          refine (ih j _ _ _ (g4.mono bt) (by omega)).mono ?_
          rintro e w2 ⟨⟨r, rfl, hr⟩, b2⟩
          have pt2 := (b2.block gt (Array.getElem?_eq_some_iff.1 pt).1).trans pt
          have bt2 := below_then bt b2
          clear y0 y1 y2 y3 c3
          obtain ⟨R, hR⟩ : ∃ R, RowKit.wrap64 (1 + r) = R := ⟨_, rfl⟩
          have hRi : -9223372036854775808 ≤ R ∧ R ≤ 9223372036854775807 := by rw [← hR]; unfold RowKit.wrap64; omega
          go_upto_region 6 with fail
          rw [hR]
          by_cases hk : D < R
          · have f3 : decide (D < R) = true := by simpa using hk
            go_wp2_with fail
            exact ⟨⟨j + 1, R, by omega, by simp, rfl, hRi, pt2, bt2⟩, by simp [intOf]; omega⟩
          · have f3 : decide (D < R) = false := by simpa using hk
            go_wp2_with fail
            exact ⟨⟨j + 1, D, by omega, by simp, rfl, hD, pt2, bt2⟩, by simp [intOf]; omega⟩
        · have f2 : decide (1 < most) = false := by simpa using hm
          go_wp2_with fail
          go_ret
          exact ⟨⟨D, rfl, hD⟩, bt⟩
      · have f1 : decide (j < len) = false := by simpa using hjl
        go_wp2_with fail
        go_ret
        exact ⟨⟨D, rfl, hD⟩, bt⟩
set_option maxRecDepth 20000 in
theorem many_any : ∀ (t : T) (w : World) (v : Value) (most : Int), TreeAt w t v → -9223372036854775808 ≤ most ∧ most ≤ 9223372036854775807 →
    Calls Try.prog 25 #[v, .int .i64 most] w fun e w' => AnyInt e ∧ Below w.heap.size w w' := by
  intro t
  induction t with
  | nil => exact fun w v most h => h.elim
  | node op n pl len sub ih =>
    rintro w v most ⟨a, cap, rfl, ho, hn, hp, hl, hnone, hat⟩ hmost
    have A := (Below.refl w.heap.size w).alloc (Nat.le_refl _) (.cells #[.int .i64 op, .int .i64 n, .int .i64 pl, .slice a len cap] 40)
    have pt : (w.alloc (.cells #[.int .i64 op, .int .i64 n, .int .i64 pl, .slice a len cap] 40)).heap[w.heap.size]? = some (.cells #[.int .i64 op, .int .i64 n, .int .i64 pl, .slice a len cap] 40 (0, 0)) := heap_alloc_new _ _
    go_enter Try.func25, Try.ntmps25
    go_upto_region 1 with fail
    obtain ⟨v1, hv⟩ : ∃ v, w.alloc (.cells #[.int .i64 op, .int .i64 n, .int .i64 pl, .slice a len cap] 40) = v := ⟨_, rfl⟩
    obtain ⟨gt, hg⟩ : ∃ g, w.heap.size = g := ⟨_, rfl⟩
    rw [hv] at pt A ⊢
    rw [hg] at pt ⊢
    have bt := A
    have hgw : w.heap.size ≤ gt := Nat.le_of_eq hg
    clear hv hg A
    go_wp2_with fail
    go_loopw [5, 6] (fun d i w' => ∃ (j : Nat) (D : Int), j ≤ len ∧ i = .int .i64 (j : Nat) ∧ d = .int .i64 D ∧ (-9223372036854775808 ≤ D ∧ D ≤ 9223372036854775807) ∧ w'.heap[gt]? = some (.cells #[.int .i64 op, .int .i64 n, .int .i64 pl, .slice a len cap] 40 (0, 0)) ∧ Below w.heap.size w w') (fun d i _ => len - (intOf i).toNat)
    case atStart => exact ⟨0, 1, Nat.zero_le _, rfl, rfl, by omega, pt, bt⟩
    case round =>
      clear pt bt
      obtain ⟨j, D, hj, rfl, rfl, hD, pt, bt⟩ := hrel
      have c3 : wr.cell? ⟨gt, 3, none⟩ = some (.slice a len cap) := cell_of_row _ _ 3 _ _ _ pt
      by_cases hjl : j < len
      · have f1 : decide (j < len) = true := by simpa using hjl
        by_cases hm : D < most
        · have f2 : decide (D < most) = true := by simpa using hm
          obtain ⟨b, off, rfl, hlt, hi⟩ := hat.resolve_left (by omega)
          obtain ⟨o', n', p', a', l', c', g0, g1, g2, g3, g4⟩ := hi j hjl
          have y0 : wr.cell? ⟨b, off + j * 4, none⟩ = some (.int .i64 o') := (bt.cell (p := ⟨b, _, none⟩) hlt).trans g0
          have y1 : wr.cell? ⟨b, off + j * 4 + 1, none⟩ = some (.int .i64 n') := (bt.cell (p := ⟨b, _, none⟩) hlt).trans g1
          have y2 : wr.cell? ⟨b, off + j * 4 + 2, none⟩ = some (.int .i64 p') := (bt.cell (p := ⟨b, _, none⟩) hlt).trans g2
          have y3 : wr.cell? ⟨b, off + j * 4 + 3, none⟩ = some (.slice a' l' c') := (bt.cell (p := ⟨b, _, none⟩) hlt).trans g3
          go_wp2_with fail
          refine (ih j _ _ _ (g4.mono bt) (by omega)).mono ?_
          rintro e w2 ⟨⟨r, rfl, hr⟩, b2⟩
          have pt2 := (b2.block gt (Array.getElem?_eq_some_iff.1 pt).1).trans pt
          have bt2 := below_then bt b2
          clear y0 y1 y2 y3 c3
          obtain ⟨R, hR⟩ : ∃ R, RowKit.wrap64 (D + r) = R := ⟨_, rfl⟩
          have hRi : -9223372036854775808 ≤ R ∧ R ≤ 9223372036854775807 := by rw [← hR]; unfold RowKit.wrap64; omega
          go_wp2_with fail
          exact ⟨⟨j + 1, R, by omega, by simp, by rw [hR], hRi, pt2, bt2⟩, by simp [intOf]; omega⟩
        · have f2 : decide (D < most) = false := by simpa using hm
          go_wp2_with fail
          go_ret
          exact ⟨⟨D, rfl, hD⟩, bt⟩
      · have f1 : decide (j < len) = false := by simpa using hjl
        go_wp2_with fail
        go_ret
        exact ⟨⟨D, rfl, hD⟩, bt⟩
def AnyBool (e : Ending) : Prop := ∃ b : Bool, e = .returned (.bool b)
set_option maxRecDepth 20000 in
theorem few13_any (w : World) (t : T) (v : Value) (h : TreeAt w t v) : Calls Try.prog 13 #[v] w fun e w' => AnyBool e ∧ Below w.heap.size w w' := by
  obtain ⟨op, n, pl, a, len, cap, rfl⟩ : ∃ (op n pl : Int) (a : Option Addr) (len cap : Nat), v = .agg #[.int .i64 op, .int .i64 n, .int .i64 pl, .slice a len cap] := by
    cases t with
    | nil => exact h.elim
    | node op n pl len sub =>
      obtain ⟨a, cap, rfl, _⟩ := h
      exact ⟨op, n, pl, a, len, cap, rfl⟩
  have A := (Below.refl w.heap.size w).alloc (Nat.le_refl _) (.cells #[.int .i64 op, .int .i64 n, .int .i64 pl, .slice a len cap] 40)
  have pt : (w.alloc (.cells #[.int .i64 op, .int .i64 n, .int .i64 pl, .slice a len cap] 40)).heap[w.heap.size]? = some (.cells #[.int .i64 op, .int .i64 n, .int .i64 pl, .slice a len cap] 40 (0, 0)) := heap_alloc_new _ _
  go_enter Try.func13, Try.ntmps13
  go_upto_region 1 with fail
  obtain ⟨v1, hv⟩ : ∃ v, w.alloc (.cells #[.int .i64 op, .int .i64 n, .int .i64 pl, .slice a len cap] 40) = v := ⟨_, rfl⟩
  obtain ⟨gt, hg⟩ : ∃ g, w.heap.size = g := ⟨_, rfl⟩
  rw [hv] at pt A ⊢
  rw [hg] at pt ⊢
  have bt := A
  have hgw : w.heap.size ≤ gt := Nat.le_of_eq hg
  clear hv hg A
  have c0 : v1.cell? ⟨gt, 0, none⟩ = some (.int .i64 op) := cell_of_row _ _ 0 _ _ _ pt
  have c1 : v1.cell? ⟨gt, 1, none⟩ = some (.int .i64 n) := cell_of_row _ _ 1 _ _ _ pt
  have c2 : v1.cell? ⟨gt, 2, none⟩ = some (.int .i64 pl) := cell_of_row _ _ 2 _ _ _ pt
  have c3 : v1.cell? ⟨gt, 3, none⟩ = some (.slice a len cap) := cell_of_row _ _ 3 _ _ _ pt
  go_wp2_with fail
  refine (deep_any t _ _ _ (h.mono bt) (by decide)).mono ?_
  rintro e w1 ⟨⟨r, rfl, hr⟩, b1⟩
  replace pt := (b1.block gt (Array.getElem?_eq_some_iff.1 pt).1).trans pt
  replace bt := below_then bt b1
  clear c0 c1 c2 c3
  have c0 : w1.cell? ⟨gt, 0, none⟩ = some (.int .i64 op) := cell_of_row _ _ 0 _ _ _ pt
  have c1 : w1.cell? ⟨gt, 1, none⟩ = some (.int .i64 n) := cell_of_row _ _ 1 _ _ _ pt
  have c2 : w1.cell? ⟨gt, 2, none⟩ = some (.int .i64 pl) := cell_of_row _ _ 2 _ _ _ pt
  have c3 : w1.cell? ⟨gt, 3, none⟩ = some (.slice a len cap) := cell_of_row _ _ 3 _ _ _ pt
  go_wp2_with fail
  refine (many_any t _ _ _ (h.mono bt) (by decide)).mono ?_
  rintro e w2 ⟨⟨s, rfl, hs⟩, b2⟩
  replace bt := below_then bt b2
  clear c0 c1 c2 c3
  by_cases h1 : r < 45
  · have f1 : decide (r < 45) = true := by simpa using h1
    go_wp2_with fail
    go_ret
    exact ⟨⟨_, rfl⟩, bt⟩
  · have f1 : decide (r < 45) = false := by simpa using h1
    go_wp2_with fail
    go_ret
    exact ⟨⟨_, rfl⟩, bt⟩
end Go.Proofs.Ytpabnpgbclfcfaa
