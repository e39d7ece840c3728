/- pass: what a search takes of a record. -/
import Derived.Test.YtbbdeefnooaacaaTabB
import Derived.BigQuiet
import Derived.Deep.CutBlock
import Derived.Deep.CutRange
import Derived.Deep.DeepCutAuto
import Derived.Deep.OwnRows
import Derived.Deep.QuietTactic
import Derived.Deep.RegionHeld3
import Derived.Deep.RegionLaw
import Derived.Laws.CopyOwn
import Derived.Laws.Tables
import Derived.Lib.Hide
import Derived.Lib.SmallJoins
import Derived.LoopTactic
import Derived.Outline
import Derived.OwnWalk
import Derived.WalkMore
import Derived.WalkLawsBesides
namespace Go.Proofs.Ytbbdeefnooaacaa
open Go.RowKit
set_option linter.unusedVariables false
set_option linter.unusedSimpArgs false

/-- What a search leaves, as cells. -/
def trailRow (at_ : Int) (here : Bool) (h many : Nat) (told : List Int) : Array Value := (.int .i64 at_ :: .bool here :: .int .u64 (h : Nat) :: .int .i64 (many : Nat) :: told.map (Value.int .i64)).toArray
theorem trailRow_told (at_ : Int) (here : Bool) (h many : Nat) (told : List Int) (L : Nat) (hL : L < told.length) : (trailRow at_ here h many told)[4 + L]? = some (.int .i64 (told.getD L 0)) := by
  have : told.getD L 0 = told[L] := by rw [List.getD_eq_getElem?_getD, List.getElem?_eq_getElem hL]; rfl
  rw [this, Nat.add_comm]
  simp [trailRow, hL]
theorem trailRow_set (at_ : Int) (here : Bool) (h many : Nat) (told : List Int) (L : Nat) (v : Int) : (trailRow at_ here h many told).setIfInBounds (4 + L) (.int .i64 v) = trailRow at_ here h many (told.set L v) := by
  rw [Nat.add_comm]
  simp [trailRow, List.map_set]
theorem trailRow_many (at_ : Int) (here : Bool) (h many : Nat) (told : List Int) (m : Nat) : (trailRow at_ here h many told).setIfInBounds 3 (.int .i64 (m : Nat)) = trailRow at_ here h m told := by
  simp [trailRow]
theorem getD_set_same (l : List Int) (L : Nat) (v : Int) (h : L < l.length) : (l.set L v).getD L 0 = v := by
  rw [List.getD_eq_getElem?_getD, List.getElem?_set_self h]
  rfl
theorem getD_set_other (l : List Int) (L M : Nat) (v : Int) (h : M ≠ L) : (l.set L v).getD M 0 = l.getD M 0 := by
  rw [List.getD_eq_getElem?_getD, List.getElem?_set_ne (fun e => h e.symm), ← List.getD_eq_getElem?_getD]
/-- A search's box. -/
def TrailAt (w : World) (g : Nat) (at_ : Int) (here : Bool) (h many : Nat) (told : List Int) : Prop := w.heap[g]? = some (.cells (trailRow at_ here h many told) 74 (0, 0))
theorem TrailAt.lt {w : World} {g : Nat} {at_ : Int} {here : Bool} {h many : Nat} {told : List Int} (x : TrailAt w g at_ here h many told) : g < w.heap.size := (Array.getElem?_eq_some_iff.1 x).1
theorem TrailAt.mono {w w' : World} {g : Nat} {at_ : Int} {here : Bool} {h many : Nat} {told : List Int} (x : TrailAt w g at_ here h many told) (hb : Below w.heap.size w w') : TrailAt w' g at_ here h many told := (hb.block g x.lt).trans x
theorem TrailAt.set {w : World} {g : Nat} {at_ : Int} {here : Bool} {h many : Nat} {told : List Int} (x : TrailAt w g at_ here h many told) (L : Nat) (v : Int) : TrailAt (w.setCell ⟨g, 4 + L, none⟩ (.int .i64 v)) g at_ here h many (told.set L v) := by
  have := Joins.block_setCell (i := 4 + L) x (.int .i64 v)
  unfold TrailAt
  rw [← trailRow_set]
  exact this
theorem TrailAt.setMany {w : World} {g : Nat} {at_ : Int} {here : Bool} {h many : Nat} {told : List Int} (x : TrailAt w g at_ here h many told) (m : Nat) : TrailAt (w.setCell ⟨g, 3, none⟩ (.int .i64 (m : Nat))) g at_ here h m told := by
  have := Joins.block_setCell (i := 3) x (.int .i64 (m : Nat))
  unfold TrailAt
  rw [← trailRow_many at_ here h many told m]
  exact this
theorem IntsAt.low {w w' : World} {a : Option Addr} {n g : Nat} {s : List Int} (h : IntsAt w a n s) (hb : Below g w w') (hg : ∀ x, a = some x → x.block < g) : IntsAt w' a n s := by
  refine ⟨h.1, h.2, ?_⟩
  rcases h.3 with h4 | ⟨b, off, ha, hlt, hc⟩
  · exact .inl h4
  · exact .inr ⟨b, off, ha, Nat.lt_of_lt_of_le hlt hb.size, fun i hi => by rw [hb.cell (p := ⟨b, off + i, none⟩) (show b < g from hg _ ha)]; exact hc i hi⟩
def PassOut (gW : Nat) (at_ : Int) (here : Bool) (h many a p : Nat) (f : Nat → Int) (told : List Int) (w : World) (e : Ending) (w' : World) : Prop :=
  e = .returned (.tuple #[]) ∧ ∃ told', TrailAt w' gW at_ here h (max many (a + 1)) told' ∧ PassP many a p f told told' ∧ Below gW w w'
set_option maxRecDepth 100000 in
set_option maxHeartbeats 2000000 in
theorem pass_any (w : World) (gW : Nat) (at_ : Int) (here : Bool) (h many : Nat) (told : List Int) (hW : TrailAt w gW at_ here h many told) (hlen : told.length = 65) (hm65 : many ≤ 65) (sa : Option Addr) (n sc : Nat) (s : List Int) (hS : IntsAt w sa n s) (hlow : ∀ x, sa = some x → x.block < gW) (y : Nat × Nat) (tl : List (Nat × Nat)) (r : RecAt s y tl) (a : Nat) (ha : a ≤ 64) :
    Calls Try.prog 39 #[.pointer (some ⟨gW, 0, none⟩), .slice sa n sc, .int .i64 (y.1 : Nat), .int .i64 (a : Nat)] w (PassOut gW at_ here h many a y.1 (fun L => ((latest y.2 L tl : Nat) : Int)) told w) := by
  have c3 : w.cell? ⟨gW, 3, none⟩ = some (.int .i64 (many : Nat)) := cell_of_row _ _ 3 _ _ _ hW
  by_cases hma : a < many
  · have f1 : decide (a < many) = true := by simpa using hma
    go_enter Try.func39, Try.ntmps39
    go_wp2_with fail
    go_end0
    exact ⟨rfl, told, by rw [Nat.max_eq_left (by omega)]; exact hW, ⟨rfl, fun _ _ => rfl, fun hh => by omega⟩, Below.refl _ _⟩
  · have f1 : decide (a < many) = false := by simpa using hma
    go_enter Try.func39, Try.ntmps39
    go_wp2_with fail
    go_loopw [8] (fun i w' => ∃ (L : Nat) (told' : List Int), many ≤ L ∧ L ≤ a ∧ i = .int .i64 (L : Nat) ∧ TrailAt w' gW at_ here h many told' ∧ told'.length = 65 ∧ (∀ M, M < many → told'.getD M 0 = told.getD M 0) ∧ (∀ M, many ≤ M → M < L → told'.getD M 0 = ((latest y.2 M tl : Nat) : Int)) ∧ Below gW w w') (fun i _ => a - (intOf i).toNat)
    case atStart => exact ⟨many, told, Nat.le_refl _, by omega, rfl, hW, hlen, fun _ _ => rfl, fun M h1 h2 => by omega, Below.refl _ _⟩
    case round =>
      obtain ⟨L, told', h1, h2, rfl, hT, hl, ho, hn, bel⟩ := hrel
      by_cases hLa : L < a
      · have f2 : decide (L < a) = true := by simpa using hLa
        have hS' : IntsAt wr.drew sa n s := hS.low bel.drew hlow
        have c4 : wr.drew.cell? ⟨gW, 4 + L, none⟩ = some (.int .i64 (told'.getD L 0)) := (cell_of_row _ _ _ _ _ _ hT).trans (trailRow_told _ _ _ _ _ L (by omega))
        have fz : wr.drew.frozen? ⟨gW, 4 + L, none⟩ = false := frozen_of_row _ _ _ _ _ hT
        have g1 : (0 : Int) ≤ (L : Int) := by omega
        have g2 : (L : Int) < 65 := by omega
        have g3 : L < 65 := by omega
        go_wp2_with fail
        go_region_held3 (fun w' => True) (trivial) (first | (go_at_call 40; refine (told_any _ sa n sc s hS' y tl r L (by omega)).mono ?_; rintro e _ ⟨rfl, rfl⟩))
        go_wp2_with fail
        refine ⟨⟨L + 1, told'.set L ((latest y.2 L tl : Nat) : Int), by omega, by omega, by simp, TrailAt.set (w := wr.drew) hT L _, by simp [hl], fun M hM => ?_, fun M hM1 hM2 => ?_, bel.drew.setCell (Nat.le_refl _) _⟩, by simp [intOf]; omega⟩
        · rw [getD_set_other _ _ _ _ (by omega)]; exact ho M hM
        · by_cases hML : M = L
          · subst hML
            exact getD_set_same _ _ _ (by omega)
          · rw [getD_set_other _ _ _ _ hML]; exact hn M hM1 (by omega)
      · have f2 : decide (L < a) = false := by simpa using hLa
        obtain rfl : a = L := by omega
        have c4 : wr.cell? ⟨gW, 4 + a, none⟩ = some (.int .i64 (told'.getD a 0)) := (cell_of_row _ _ _ _ _ _ hT).trans (trailRow_told _ _ _ _ _ a (by omega))
        have fz : wr.frozen? ⟨gW, 4 + a, none⟩ = false := frozen_of_row _ _ _ _ _ hT
        have hT2 := hT.set a (y.1 : Nat)
        have c3' : (wr.setCell ⟨gW, 4 + a, none⟩ (.int .i64 (y.1 : Nat))).cell? ⟨gW, 3, none⟩ = some (.int .i64 (many : Nat)) := cell_of_row _ _ 3 _ _ _ hT2
        have fz3 : (wr.setCell ⟨gW, 4 + a, none⟩ (.int .i64 (y.1 : Nat))).frozen? ⟨gW, 3, none⟩ = false := frozen_of_row _ _ _ _ _ hT2
        go_wp2_with fail
        go_end0
        refine ⟨rfl, _, by rw [Nat.max_eq_right (by omega)]; exact hT2.setMany (a + 1), ⟨by simp [hl, hlen], fun M hM => ?_, fun _ => ⟨fun M hM1 hM2 => ?_, getD_set_same _ _ _ (by omega)⟩⟩, (bel.setCell (Nat.le_refl _) _).setCell (Nat.le_refl _) _⟩
        · rw [getD_set_other _ _ _ _ (by omega)]; exact ho M hM
        · rw [getD_set_other _ _ _ _ (by omega)]; exact hn M hM1 hM2
end Go.Proofs.Ytbbdeefnooaacaa
