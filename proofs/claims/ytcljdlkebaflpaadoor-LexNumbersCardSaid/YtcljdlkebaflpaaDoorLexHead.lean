/- The head of all statements of layer 12. -/
import Derived.Test.YtcljdlkebaflpaaDoorLex5
import Derived.Laws.OwnMore
namespace Go.Proofs.YtcljdlkebaflpaaDoor
open Go.RowKit
set_option linter.unusedVariables false

/-- A row of the call's own that is not empty: where it lies, and its cells. -/
theorem own_at {w : World} {base : Nat} {e : TypeId} {size : Nat} {v : Value} {n : Nat} {xs : List Value} (h : w.ownsRow base e size v n xs) (hn : 0 < n) :
    ∃ g cap, v = .slice (some ⟨g, 0, none⟩) n cap ∧ base ≤ g ∧ g < w.heap.size ∧ ∀ j, j < n * size → w.cell? ⟨g, j, none⟩ = xs[j]? := by
  rcases h.2 with ⟨_, h0⟩ | ⟨g, cap, cur, rfl, hb, hg, _⟩
  · omega
  · exact ⟨g, cap, rfl, hb, (Array.getElem?_eq_some_iff.1 hg).1, fun j hj => h.cellAt j hj⟩
theorem below_then {w a b : World} (h : Below w.heap.size w a) (h' : Below a.heap.size a b) : Below w.heap.size w b := h.trans (h'.mono h.size)
def tx1 : ByteArray := ⟨#[120, 49, 32, 60, 61, 32, 49, 48, 32, 35, 32, 101, 110, 100]⟩
def tx2 : ByteArray := ⟨#[97, 98, 32, 36]⟩
def tx3 : ByteArray := ⟨#[49, 48, 55, 51, 55, 52, 49, 56, 50, 53]⟩
theorem lex1 : lexL tx1.data.toList = .ok [⟨1, [120, 49], 0, 0⟩, ⟨3, [60, 61], 0, 3⟩, ⟨2, [49, 48], 10, 6⟩, ⟨4, [], 0, 14⟩] := by kernel_rfl
theorem lex2 : lexL tx2.data.toList = .error (2, 3) := by kernel_rfl
theorem lex3 : lexL tx3.data.toList = .error (9, 0) := by kernel_rfl
theorem tok1 (w : World) (hw : Signed w) : Calls Tryd.prog 11 #[.string ⟨#[120, 49, 32, 60, 61, 32, 49, 48, 32, 35, 32, 101, 110, 100]⟩] w fun e w' =>
    (∃ v, e = .returned (.tuple #[v, .int .i64 0, .int .i64 0]) ∧ w'.ownsRow (w.heap.size + 1) 34 4 v 4 (tokCells [⟨1, [120, 49], 0, 0⟩, ⟨3, [60, 61], 0, 3⟩, ⟨2, [49, 48], 10, 6⟩, ⟨4, [], 0, 14⟩])) ∧ Below w.heap.size w w' := by
  have h := tokens_any w tx1 hw (by decide)
  rw [lex1] at h
  exact h
theorem tok2 (w : World) (hw : Signed w) : Calls Tryd.prog 11 #[.string ⟨#[97, 98, 32, 36]⟩] w fun e w' => e = .returned (.tuple #[.slice none 0 0, .int .i64 2, .int .i64 3]) ∧ Below w.heap.size w w' := by
  have h := tokens_any w tx2 hw (by decide)
  rw [lex2] at h
  exact h
theorem tok3 (w : World) (hw : Signed w) : Calls Tryd.prog 11 #[.string ⟨#[49, 48, 55, 51, 55, 52, 49, 56, 50, 53]⟩] w fun e w' => e = .returned (.tuple #[.slice none 0 0, .int .i64 9, .int .i64 0]) ∧ Below w.heap.size w w' := by
  have h := tokens_any w tx3 hw (by decide)
  rw [lex3] at h
  exact h
set_option maxHeartbeats 4000000 in
theorem shown_any (w : World) (hw : Signed w) : Calls Tryd.prog 10 #[] w fun e w' => e = .returned (.bool true) ∧ Below w.heap.size w w' := by
  go_enter Tryd.func10, Tryd.ntmps10
  go_wp2_with fail
  refine (tok1 _ hw).mono ?_
  rintro e w1 ⟨⟨v, rfl, own⟩, b1⟩
  obtain ⟨g, cap, rfl, hbg, hgl, hcell⟩ := own_at own (by decide)
  have hw1 := hw.mono b1
  go_wp2_with fail
  refine (tok2 _ hw1).mono ?_
  rintro e w2 ⟨rfl, b2⟩
  have hw2 := hw1.mono b2
  go_wp2_with fail
  refine (tok3 _ hw2).mono ?_
  rintro e w3 ⟨rfl, b3⟩
  have hw3 := hw2.mono b3
  have B3 := below_then (below_then b1 b2) b3
  have hcell3 : ∀ j, j < 16 → w3.cell? ⟨g, j, none⟩ = (tokCells [⟨1, [120, 49], 0, 0⟩, ⟨3, [60, 61], 0, 3⟩, ⟨2, [49, 48], 10, 6⟩, ⟨4, [], 0, 14⟩])[j]? := fun j hj => by
    rw [← hcell j hj]
    exact (below_then b2 b3).cell (p := ⟨g, j, none⟩) hgl
  have m0 : w3.cell? ⟨g, 0, none⟩ = some (.int .i64 1) := hcell3 0 (by decide)
  have m1 : w3.cell? ⟨g, 1, none⟩ = some (.string ⟨#[120, 49]⟩) := hcell3 1 (by decide)
  have m2 : w3.cell? ⟨g, 2, none⟩ = some (.int .i64 0) := hcell3 2 (by decide)
  have m3 : w3.cell? ⟨g, 3, none⟩ = some (.int .i64 0) := hcell3 3 (by decide)
  have m4 : w3.cell? ⟨g, 4, none⟩ = some (.int .i64 3) := hcell3 4 (by decide)
  have m5 : w3.cell? ⟨g, 5, none⟩ = some (.string ⟨#[60, 61]⟩) := hcell3 5 (by decide)
  have m6 : w3.cell? ⟨g, 6, none⟩ = some (.int .i64 0) := hcell3 6 (by decide)
  have m7 : w3.cell? ⟨g, 7, none⟩ = some (.int .i64 3) := hcell3 7 (by decide)
  have m8 : w3.cell? ⟨g, 8, none⟩ = some (.int .i64 2) := hcell3 8 (by decide)
  have m9 : w3.cell? ⟨g, 9, none⟩ = some (.string ⟨#[49, 48]⟩) := hcell3 9 (by decide)
  have m10 : w3.cell? ⟨g, 10, none⟩ = some (.int .i64 10) := hcell3 10 (by decide)
  have m11 : w3.cell? ⟨g, 11, none⟩ = some (.int .i64 6) := hcell3 11 (by decide)
  have m12 : w3.cell? ⟨g, 12, none⟩ = some (.int .i64 4) := hcell3 12 (by decide)
  have m13 : w3.cell? ⟨g, 13, none⟩ = some (.string ⟨#[]⟩) := hcell3 13 (by decide)
  have m14 : w3.cell? ⟨g, 14, none⟩ = some (.int .i64 0) := hcell3 14 (by decide)
  have m15 : w3.cell? ⟨g, 15, none⟩ = some (.int .i64 14) := hcell3 15 (by decide)
  clear hcell3 hcell own hw hw1 hw2 b1 b2 b3
  go_wp2_with fail
  refine (signs_any _ hw3).mono ?_
  rintro e w4 ⟨⟨v, rfl, own⟩, b4⟩
  obtain ⟨g4, cap4, rfl, _, _, _⟩ := own_at own (by decide)
  have hw4 := hw3.mono b4
  go_wp2_with fail
  refine (signs_any _ hw4).mono ?_
  rintro e w5 ⟨⟨v, rfl, own⟩, b5⟩
  obtain ⟨g5, cap5, rfl, _, _, hcell⟩ := own_at own (by decide)
  have m : w5.cell? ⟨g5, 0, none⟩ = some (.string ⟨#[60, 45, 62]⟩) := hcell 0 (by decide)
  clear hcell own
  go_wp2_with fail
  go_ret
  exact ⟨rfl, below_then (below_then B3 b4) b5⟩
end Go.Proofs.YtcljdlkebaflpaaDoor
