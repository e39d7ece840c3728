/- What trees come to: the program's Eval on trees of numbers and comparisons (by gen17c.py). -/
import Derived.Test.YtogdfjcgcdbnaaaTreesE
import Derived.ScopeJumps
import Derived.Laws.Tables
import Derived.Laws.CopyOwn
import Derived.Lib.SmallJoins
namespace Go.Proofs.Ytogdfjcgcdbnaaa
open Go.RowKit
set_option linter.unusedVariables false
set_option linter.unusedSimpArgs false
theorem store_rec {P : Program} {ops : Array Oper} {rest : List Oper} {o : Oper} {a : Act} {w : World} {Q : Exit → Act → World → Prop} (hgd : o.guard = none) (ty : TypeId) (x y : Operand) (ho : o.op = .store ty x y)
    (g : Nat) (row : Array Value) (hx : a.eval x = .pointer (some ⟨g, 0, none⟩)) (hy : a.eval y = .agg row)
    (t : TypeId) (old : Array Value) (hg : w.heap[g]? = some (.cells old t (0, 0))) (hi : (P.info? ty).map (·.size) = some row.size)
    (hold : old.size = row.size) (h1 : row.all (·.oneCell') = true)
    (h : ∀ w1, w1.heap[g]? = some (.cells row t (0, 0)) → w1.heap.size = w.heap.size → (∀ b, b ≠ g → w1.heap[b]? = w.heap[b]?) → Below g w w1 → wpList P ops Q rest (a.put o.dst undef) w1) : wpList P ops Q (o :: rest) a w :=
  wpList_store_row hgd ty x y ho g row hx hy t old hg hi hold h1 (h _ (setRow_heap w g old row t (0, 0) hg) (by simp [World.setRow]) (fun b hb => setRow_other w g b _ hb) (below_setRow (Below.refl _ _) (Nat.le_refl _) _))
theorem wrap_sub (a b : Int) : RowKit.wrap64 (a + RowKit.wrap64 (-b)) = RowKit.wrap64 (a - b) := by
  unfold RowKit.wrap64
  omega
theorem wrap_neg0 (b : Int) : RowKit.wrap64 (0 + RowKit.wrap64 (-b)) = RowKit.wrap64 (-b) := by
  unfold RowKit.wrap64
  omega
def t01 (b : Bool) : Int := if b then 1 else 0
theorem truth_any (w : World) (b : Bool) : Calls Try.prog 48 #[.bool b] w fun e w' => e = .returned (.int .i64 (t01 b)) ∧ Below w.heap.size w w' := by
  have b0 := Below.refl w.heap.size w
  cases b with
  | true =>
    go_enter Try.func48, Try.ntmps48
    go_wp2_with fail
    go_ret
    exact ⟨rfl, b0⟩
  | false =>
    go_enter Try.func48, Try.ntmps48
    go_wp2_with fail
    go_ret
    exact ⟨rfl, b0⟩
/-- What is known of the sides behind j parts. -/
def sideV (v : List Int) (sub : Nat → T) (k j : Nat) : Int := if k < j then evT v (sub k) else 0
/-- The contract, tree by tree. -/
def EvalOK (t : T) : Prop := ∀ (w : World) (v : Value) (va : Option Addr) (vl vc : Nat) (V : List Int), TreeAt w t v → IntsAt w va vl V → MayP t → (tyT t = 1 ∨ (tyT t ≠ 0 ∧ t.opOf ≤ 14)) →
    Calls Try.prog 32 #[v, .slice va vl vc] w fun e w' => e = .returned (.int .i64 (evT V t)) ∧ Below w.heap.size w w'
theorem ev1 (V : List Int) (n a b : Int) : evOp V 1 n a b = n := by simp [evOp]
theorem ev3 (V : List Int) (n a b : Int) : evOp V 3 n a b = RowKit.wrap64 (a + b) := by simp [evOp]
theorem ev4 (V : List Int) (n a b : Int) : evOp V 4 n a b = RowKit.wrap64 (a - b) := by simp [evOp]
theorem ev5 (V : List Int) (n a b : Int) : evOp V 5 n a b = RowKit.wrap64 (a * b) := by simp [evOp]
theorem ev6 (V : List Int) (n a b : Int) : evOp V 6 n a b = RowKit.wrap64 (-a) := by simp [evOp]
theorem ev7 (V : List Int) (n a b : Int) : evOp V 7 n a b = b01 (a = b) := by simp [evOp]
theorem ev8 (V : List Int) (n a b : Int) : evOp V 8 n a b = b01 (a ≠ b) := by simp [evOp]
theorem ev9 (V : List Int) (n a b : Int) : evOp V 9 n a b = b01 (a < b) := by simp [evOp]
theorem ev10 (V : List Int) (n a b : Int) : evOp V 10 n a b = b01 (a ≤ b) := by simp [evOp]
theorem ev11 (V : List Int) (n a b : Int) : evOp V 11 n a b = b01 (b < a) := by simp [evOp]
theorem ev12 (V : List Int) (n a b : Int) : evOp V 12 n a b = b01 (b ≤ a) := by simp [evOp]
theorem ev13 (V : List Int) (n a b : Int) : evOp V 13 n a b = 1 := by simp [evOp]
theorem ev14 (V : List Int) (n a b : Int) : evOp V 14 n a b = 0 := by simp [evOp]
theorem frame_list' (xs : Array Value) : xs = ((List.range xs.size).map fun i => xs.getD i undef).toArray := by
  apply Array.ext
  · simp
  · intro i h1 h2
    simp [Array.getD, h1]
theorem frame122 {tm : Array Value} {x1 x2 x8 x9 : Value} (hz : tm.size = 122) (h1 : tm.getD 1 undef = x1) (h2 : tm.getD 2 undef = x2) (h8 : tm.getD 8 undef = x8) (h9 : tm.getD 9 undef = x9) : ∃ U : Nat → Value, tm = #[U 0, x1, x2, U 3, U 4, U 5, U 6, U 7, x8, x9, U 10, U 11, U 12, U 13, U 14, U 15, U 16, U 17, U 18, U 19, U 20, U 21, U 22, U 23, U 24, U 25, U 26, U 27, U 28, U 29, U 30, U 31, U 32, U 33, U 34, U 35, U 36, U 37, U 38, U 39, U 40, U 41, U 42, U 43, U 44, U 45, U 46, U 47, U 48, U 49, U 50, U 51, U 52, U 53, U 54, U 55, U 56, U 57, U 58, U 59, U 60, U 61, U 62, U 63, U 64, U 65, U 66, U 67, U 68, U 69, U 70, U 71, U 72, U 73, U 74, U 75, U 76, U 77, U 78, U 79, U 80, U 81, U 82, U 83, U 84, U 85, U 86, U 87, U 88, U 89, U 90, U 91, U 92, U 93, U 94, U 95, U 96, U 97, U 98, U 99, U 100, U 101, U 102, U 103, U 104, U 105, U 106, U 107, U 108, U 109, U 110, U 111, U 112, U 113, U 114, U 115, U 116, U 117, U 118, U 119, U 120, U 121] := by
  subst h1 h2 h8 h9
  refine ⟨fun i => tm.getD i undef, ?_⟩
  have h := frame_list' tm
  rw [hz] at h
  exact h
section
variable {P : Program}
theorem seq_skip {c d : Code} {R : Exit → Act → World → Prop} {a : Act} {w : World} (hR : ∀ e a w, R e a w → e ≠ .normal) (h : c.wp P R a w) : (c.seq d).wp P R a w := by
  refine wp_seq (wp_mono h fun e a w he => ?_)
  cases e with
  | normal => exact absurd rfl (hR _ _ _ he)
  | _ => exact he
theorem block_skip {n : Nat} {c : Code} {R : Exit → Act → World → Prop} {a : Act} {w : World} (hR : ∀ e a w, R e a w → e ≠ .exit n) (h : c.wp P R a w) : (Code.block n c).wp P R a w := by
  refine wp_block (wp_mono h fun e a w he => ?_)
  cases e with
  | exit m =>
    by_cases hm : m = n
    · exact absurd (by rw [hm]) (hR _ _ _ he)
    · simp only [Exit.inBlock]
      rw [if_neg hm]
      exact he
  | _ => exact he
theorem block_hit {n : Nat} {c : Code} {S : Act → World → Prop} {a : Act} {w : World} (h : c.wp P (fun e a w => e = .exit n ∧ S a w) a w) : (Code.block n c).wp P (fun e a w => e = .normal ∧ S a w) a w := by
  refine wp_block (wp_mono h fun e a w he => ?_)
  obtain ⟨rfl, hs⟩ := he
  simp [Exit.inBlock]
  exact hs
theorem seq_then {c d : Code} {S : Act → World → Prop} {R : Exit → Act → World → Prop} {a : Act} {w : World} (h : c.wp P (fun e a w => e = .normal ∧ S a w) a w) (hd : ∀ a w, S a w → d.wp P R a w) : (c.seq d).wp P R a w := by
  refine wp_seq (wp_mono h fun e a w he => ?_)
  obtain ⟨rfl, hs⟩ := he
  exact hd _ _ hs
end
/-- What is known of the frame behind the switch. -/
def SwS (v1 : Value) (g : Nat) (W : World) (x8 x9 : Value) (a : Act) (w : World) : Prop :=
  a.defers = [] ∧ a.tmps.size = 122 ∧ a.tmps.getD 1 undef = v1 ∧ a.tmps.getD 2 undef = .pointer (some ⟨g, 0, none⟩) ∧ a.tmps.getD 8 undef = x8 ∧ a.tmps.getD 9 undef = x9 ∧ W = w
theorem SwS.frame {x1 : Value} {g : Nat} {W : World} {x8 x9 : Value} {a : Act} {w : World} (h : SwS x1 g W x8 x9 a w) : ∃ U : Nat → Value, a = ⟨#[U 0, x1, .pointer (some ⟨g, 0, none⟩), U 3, U 4, U 5, U 6, U 7, x8, x9, U 10, U 11, U 12, U 13, U 14, U 15, U 16, U 17, U 18, U 19, U 20, U 21, U 22, U 23, U 24, U 25, U 26, U 27, U 28, U 29, U 30, U 31, U 32, U 33, U 34, U 35, U 36, U 37, U 38, U 39, U 40, U 41, U 42, U 43, U 44, U 45, U 46, U 47, U 48, U 49, U 50, U 51, U 52, U 53, U 54, U 55, U 56, U 57, U 58, U 59, U 60, U 61, U 62, U 63, U 64, U 65, U 66, U 67, U 68, U 69, U 70, U 71, U 72, U 73, U 74, U 75, U 76, U 77, U 78, U 79, U 80, U 81, U 82, U 83, U 84, U 85, U 86, U 87, U 88, U 89, U 90, U 91, U 92, U 93, U 94, U 95, U 96, U 97, U 98, U 99, U 100, U 101, U 102, U 103, U 104, U 105, U 106, U 107, U 108, U 109, U 110, U 111, U 112, U 113, U 114, U 115, U 116, U 117, U 118, U 119, U 120, U 121], []⟩ ∧ W = w := by
  obtain ⟨h0, hz, h1, h2, h8, h9, hw⟩ := h
  obtain ⟨tm, df⟩ := a
  obtain ⟨U, hU⟩ := frame122 hz h1 h2 h8 h9
  simp only [] at h0 hU
  subst h0 hU
  exact ⟨U, rfl, hw⟩
def EvR (V : List Int) (t : T) (W : World) (e : Exit) (a : Act) (w : World) : Prop := e = Exit.ret ∧ a.defers = [] ∧ a.tmps.getD 4 undef = .int .i64 (evT V t) ∧ Below W.heap.size W w
theorem wrap_idem (a : Int) : RowKit.wrap64 (RowKit.wrap64 a) = RowKit.wrap64 a := by
  unfold RowKit.wrap64
  omega
end Go.Proofs.Ytogdfjcgcdbnaaa
