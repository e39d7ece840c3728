/- Worlds behind a world that leave all below a block number alone: a class for regions that draw their order and hold loads beside calls that make memory. -/
import Derived.WalkKit
import Derived.WalkSpells
import Derived.WalkLawsBesides
import Derived.Lib.Hide
import Derived.Deep.QuietTactic
import Derived.BigQuiet
namespace Go.Proofs.Ytpabnpgbclfcfaa
open Go.RowKit
set_option linter.unusedVariables false
set_option linter.unusedSimpArgs false

/-- A world behind W, below B as W is. -/
structure Later (B : Nat) (W : World) where
  w : World
  below : Below B W w
instance (B : Nat) (W : World) : Nonempty (Later B W) := ⟨⟨W, Below.refl _ _⟩⟩
theorem Later.cell {B : Nat} {W : World} (x : Later B W) (b o : Nat) (h : b < B) : x.w.cell? ⟨b, o, none⟩ = W.cell? ⟨b, o, none⟩ := x.below.cell (p := ⟨b, o, none⟩) h
theorem wp_region_later {P : Program} (B : Nat) (W : World) {id : Nat} {Q : Exit → Act → World → Prop} {a : Act} {w : World} {l : List Oper} (hm : P.follows .mixedOrders = true) (hB : Region.lexB .any l.toArray = true) (hb : Below B W w)
    (h : wpQuiet P l.toArray (fun w' => ∃ x : Later B W, w' = x.w) (fun a' => ∀ w', (∃ x : Later B W, w' = x.w) → Q .normal a' w') l a) : (Code.region id l.toArray true).wp P Q a w :=
  wp_region_quiet (C := fun w' => ∃ x : Later B W, w' = x.w) hm hB ⟨⟨_, hb.drew⟩, rfl⟩ (by simpa using h)
/-- A contract that leaves all below B alone, met in a later world. -/
theorem Calls.later {P : Program} {f : FuncId} {args : Array Value} {B : Nat} {W : World} (x : Later B W) {v : Value}
    (h : Calls P f args x.w fun e w' => e = .returned v ∧ Below B x.w w') : Calls P f args x.w fun e w'' => e = .returned v ∧ ∃ y : Later B W, w'' = y.w :=
  h.mono fun _ w' ⟨he, hb⟩ => ⟨he, ⟨w', x.below.trans hb⟩, rfl⟩
theorem Calls.later0 {P : Program} {f : FuncId} {args : Array Value} {W : World} {x : Later W.heap.size W} {v : Value}
    (h : Calls P f args x.w fun e w' => e = .returned v ∧ Below x.w.heap.size x.w w') : Calls P f args x.w fun e w'' => e = .returned v ∧ ∃ y : Later W.heap.size W, w'' = y.w :=
  h.mono fun _ w' ⟨he, hb⟩ => ⟨he, ⟨w', x.below.trans (hb.mono x.below.size)⟩, rfl⟩
theorem Calls.later_same {P : Program} {f : FuncId} {args : Array Value} {B : Nat} {W : World} {x : Later B W} {v : Value}
    (h : Calls P f args x.w fun e w' => e = .returned v ∧ x.w = w') : Calls P f args x.w fun e w'' => e = .returned v ∧ ∃ y : Later B W, w'' = y.w :=
  h.mono fun _ w' ⟨he, hb⟩ => ⟨he, x, hb.symm⟩
end Go.Proofs.Ytpabnpgbclfcfaa
