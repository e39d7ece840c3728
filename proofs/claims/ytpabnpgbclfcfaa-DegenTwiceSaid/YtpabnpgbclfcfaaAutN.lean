/- The document's example (by gen19o.py). -/
import Derived.Test.YtpabnpgbclfcfaaAutJ
import Derived.Test.YtpabnpgbclfcfaaAutEC
namespace Go.Proofs.Ytpabnpgbclfcfaa
open Go.RowKit
set_option linter.unusedVariables false
set_option linter.unusedSimpArgs false

def shT : T := .node 13 0 0 0 fun _ => .nil
def shLn (i : Nat) : Nat := if i = 1 then 1 else 0
def shNx (i : Nat) : List Int := if i = 0 then [1] else [0]
def shAc (i : Nat) : List Int := if i = 0 then [0] else [1]
def shF (i : Nat) : List Int := if i < 2 then [3] else [0]
theorem int_block {w : World} {g : Nat} {x : Int} (h : w.heap[g]? = some (.cells #[.int .i64 x] 3 (0, 0))) : IntsAt w (some ⟨g, 0, none⟩) 1 [x] := by
  refine ⟨rfl, by decide, .inr ⟨g, 0, rfl, (Array.getElem?_eq_some_iff.1 h).1, fun j hj => ?_⟩⟩
  have : j = 0 := by omega
  subst this
  exact cell_of_row _ _ 0 _ _ _ h
theorem word_two {w : World} {g a b : Nat} {f : Nat → List Int} {x y : Int} (h : w.heap[g]? = some (.cells #[.slice (some ⟨a, 0, none⟩) 1 1, .slice (some ⟨b, 0, none⟩) 1 1] 24 (0, 0))) (ha : w.heap[a]? = some (.cells #[.int .i64 x] 3 (0, 0))) (hb : w.heap[b]? = some (.cells #[.int .i64 y] 3 (0, 0))) (f0 : f 0 = [x]) (f1 : f 1 = [y]) : WordAt w (some ⟨g, 0, none⟩) 2 f := by
  refine .inr ⟨g, 0, rfl, (Array.getElem?_eq_some_iff.1 h).1, fun i hi => ?_⟩
  rcases (by omega : i = 0 ∨ i = 1) with rfl | rfl
  · exact ⟨_, _, _, cell_of_row _ _ 0 _ _ _ h, by rw [f0]; exact int_block ha⟩
  · exact ⟨_, _, _, cell_of_row _ _ 1 _ _ _ h, by rw [f1]; exact int_block hb⟩
theorem shown_may : MayP shT := ⟨by decide, by decide, rfl, fun i hi => by omega⟩
theorem shown_right : RightP 2 shLn (fun _ _ => shT) 2 shNx [0] 2 shAc := by
  refine ⟨by decide, rfl, fun q hq => ?_, fun i hi => ?_⟩
  · rcases (by omega : q = 0 ∨ q = 1) with rfl | rfl
    · exact ⟨by decide, fun i hi => rfl⟩
    · exact ⟨by decide, fun i hi => rfl⟩
  · rcases (by omega : i = 0 ∨ i = 1) with rfl | rfl <;> decide
theorem shown_next : ∀ j, j < 4 → nextO 2 (inB 2 shAc) shNx j = shF j := by
  intro j hj
  rcases (by omega : j = 0 ∨ j = 1 ∨ j = 2 ∨ j = 3) with rfl | rfl | rfl | rfl <;> decide
theorem of_shown (w : World) (la na ia ca : Option Addr) (h : AutAt w la na ia ca 2 2 1 2 shLn (fun _ _ => shT) shNx [0] shAc) :
    Calls Try.prog 9 #[.agg #[.slice la 2 2, .slice na 2 2, .slice ia 1 1, .slice ca 2 2]] w fun e w' => (∃ (la2 na2 ia2 ca2 : Option Addr) (lc2 nc2 ic2 cc2 : Nat), e = .returned (.agg #[.slice la2 4 lc2, .slice na2 4 nc2, .slice ia2 1 ic2, .slice ca2 1 cc2]) ∧ LitsAt w' la2 4 (fun x => shLn (x / 2)) (fun _ _ => shT) ∧ WordAt w' na2 4 shF ∧ IntsAt w' ia2 1 [0] ∧ WordAt w' ca2 1 (fun _ => [0])) ∧ Below w.heap.size w w' := by
  refine (of_any w la na ia ca 2 2 2 2 1 1 2 2 shLn (fun _ _ => shT) shNx [0] shAc h 2 rfl shown_right (fun _ _ _ _ => shown_may) (by decide) (by decide) (by decide) (fun q hq => by unfold shNx; split <;> decide) (fun q hq => by unfold shLn; split <;> decide)).mono ?_
  rintro e w' ⟨⟨la2, na2, ia2, ca2, lc2, nc2, ic2, cc2, rfl, hA⟩, b⟩
  refine ⟨⟨la2, na2, ia2, ca2, lc2, nc2, ic2, cc2, rfl, hA.lits, hA.next.congr shown_next, ?_, hA.acc.congr fun j hj => by decide⟩, b⟩
  exact hA.init
set_option maxRecDepth 100000 in
set_option maxHeartbeats 4000000 in
theorem shown_any (w : World) : Calls Try.prog 4 #[] w fun e w' => e = .returned (.bool true) ∧ Below w.heap.size w w' := by
  have e0 : (((((((((((w.alloc (.cells #[.int .i64 13, .int .i64 0, .int .i64 0, .slice none 0 0] 40)).alloc (.cells #[.slice none 0 0, .slice (some ⟨w.heap.size, 0, none⟩) 1 1] 38)).alloc (.cells #[.int .i64 1] 3)).alloc (.cells #[.int .i64 0] 3)).alloc (.cells #[.slice (some ⟨w.heap.size + 1 + 1, 0, none⟩) 1 1, .slice (some ⟨w.heap.size + 1 + 1 + 1, 0, none⟩) 1 1] 24)).alloc (.cells #[.int .i64 0] 3)).alloc (.cells #[.int .i64 0] 3)).alloc (.cells #[.int .i64 1] 3)).alloc (.cells #[.slice (some ⟨w.heap.size + 1 + 1 + 1 + 1 + 1 + 1, 0, none⟩) 1 1, .slice (some ⟨w.heap.size + 1 + 1 + 1 + 1 + 1 + 1 + 1, 0, none⟩) 1 1] 24)).alloc (.cells #[.slice (some ⟨w.heap.size + 1, 0, none⟩) 2 2, .slice (some ⟨w.heap.size + 1 + 1 + 1 + 1, 0, none⟩) 2 2, .slice (some ⟨w.heap.size + 1 + 1 + 1 + 1 + 1, 0, none⟩) 1 1, .slice (some ⟨w.heap.size + 1 + 1 + 1 + 1 + 1 + 1 + 1 + 1, 0, none⟩) 2 2] 26))).heap[w.heap.size]? = some (.cells #[.int .i64 13, .int .i64 0, .int .i64 0, .slice none 0 0] 40 (0, 0)) := by
    refine (Below.heap_alloc _ _ _ (by simp only [World.size_alloc]; omega)).trans ?_
    refine (Below.heap_alloc _ _ _ (by simp only [World.size_alloc]; omega)).trans ?_
    refine (Below.heap_alloc _ _ _ (by simp only [World.size_alloc]; omega)).trans ?_
    refine (Below.heap_alloc _ _ _ (by simp only [World.size_alloc]; omega)).trans ?_
    refine (Below.heap_alloc _ _ _ (by simp only [World.size_alloc]; omega)).trans ?_
    refine (Below.heap_alloc _ _ _ (by simp only [World.size_alloc]; omega)).trans ?_
    refine (Below.heap_alloc _ _ _ (by simp only [World.size_alloc]; omega)).trans ?_
    refine (Below.heap_alloc _ _ _ (by simp only [World.size_alloc]; omega)).trans ?_
    refine (Below.heap_alloc _ _ _ (by simp only [World.size_alloc]; omega)).trans ?_
    have h := heap_alloc_new w (.cells #[.int .i64 13, .int .i64 0, .int .i64 0, .slice none 0 0] 40)
    try simp only [World.size_alloc] at h
    exact h
  have e1 : (((((((((((w.alloc (.cells #[.int .i64 13, .int .i64 0, .int .i64 0, .slice none 0 0] 40)).alloc (.cells #[.slice none 0 0, .slice (some ⟨w.heap.size, 0, none⟩) 1 1] 38)).alloc (.cells #[.int .i64 1] 3)).alloc (.cells #[.int .i64 0] 3)).alloc (.cells #[.slice (some ⟨w.heap.size + 1 + 1, 0, none⟩) 1 1, .slice (some ⟨w.heap.size + 1 + 1 + 1, 0, none⟩) 1 1] 24)).alloc (.cells #[.int .i64 0] 3)).alloc (.cells #[.int .i64 0] 3)).alloc (.cells #[.int .i64 1] 3)).alloc (.cells #[.slice (some ⟨w.heap.size + 1 + 1 + 1 + 1 + 1 + 1, 0, none⟩) 1 1, .slice (some ⟨w.heap.size + 1 + 1 + 1 + 1 + 1 + 1 + 1, 0, none⟩) 1 1] 24)).alloc (.cells #[.slice (some ⟨w.heap.size + 1, 0, none⟩) 2 2, .slice (some ⟨w.heap.size + 1 + 1 + 1 + 1, 0, none⟩) 2 2, .slice (some ⟨w.heap.size + 1 + 1 + 1 + 1 + 1, 0, none⟩) 1 1, .slice (some ⟨w.heap.size + 1 + 1 + 1 + 1 + 1 + 1 + 1 + 1, 0, none⟩) 2 2] 26))).heap[w.heap.size + 1]? = some (.cells #[.slice none 0 0, .slice (some ⟨w.heap.size, 0, none⟩) 1 1] 38 (0, 0)) := by
    refine (Below.heap_alloc _ _ _ (by simp only [World.size_alloc]; omega)).trans ?_
    refine (Below.heap_alloc _ _ _ (by simp only [World.size_alloc]; omega)).trans ?_
    refine (Below.heap_alloc _ _ _ (by simp only [World.size_alloc]; omega)).trans ?_
    refine (Below.heap_alloc _ _ _ (by simp only [World.size_alloc]; omega)).trans ?_
    refine (Below.heap_alloc _ _ _ (by simp only [World.size_alloc]; omega)).trans ?_
    refine (Below.heap_alloc _ _ _ (by simp only [World.size_alloc]; omega)).trans ?_
    refine (Below.heap_alloc _ _ _ (by simp only [World.size_alloc]; omega)).trans ?_
    refine (Below.heap_alloc _ _ _ (by simp only [World.size_alloc]; omega)).trans ?_
    have h := heap_alloc_new (w.alloc (.cells #[.int .i64 13, .int .i64 0, .int .i64 0, .slice none 0 0] 40)) (.cells #[.slice none 0 0, .slice (some ⟨w.heap.size, 0, none⟩) 1 1] 38)
    try simp only [World.size_alloc] at h
    exact h
  have e2 : (((((((((((w.alloc (.cells #[.int .i64 13, .int .i64 0, .int .i64 0, .slice none 0 0] 40)).alloc (.cells #[.slice none 0 0, .slice (some ⟨w.heap.size, 0, none⟩) 1 1] 38)).alloc (.cells #[.int .i64 1] 3)).alloc (.cells #[.int .i64 0] 3)).alloc (.cells #[.slice (some ⟨w.heap.size + 1 + 1, 0, none⟩) 1 1, .slice (some ⟨w.heap.size + 1 + 1 + 1, 0, none⟩) 1 1] 24)).alloc (.cells #[.int .i64 0] 3)).alloc (.cells #[.int .i64 0] 3)).alloc (.cells #[.int .i64 1] 3)).alloc (.cells #[.slice (some ⟨w.heap.size + 1 + 1 + 1 + 1 + 1 + 1, 0, none⟩) 1 1, .slice (some ⟨w.heap.size + 1 + 1 + 1 + 1 + 1 + 1 + 1, 0, none⟩) 1 1] 24)).alloc (.cells #[.slice (some ⟨w.heap.size + 1, 0, none⟩) 2 2, .slice (some ⟨w.heap.size + 1 + 1 + 1 + 1, 0, none⟩) 2 2, .slice (some ⟨w.heap.size + 1 + 1 + 1 + 1 + 1, 0, none⟩) 1 1, .slice (some ⟨w.heap.size + 1 + 1 + 1 + 1 + 1 + 1 + 1 + 1, 0, none⟩) 2 2] 26))).heap[w.heap.size + 1 + 1]? = some (.cells #[.int .i64 1] 3 (0, 0)) := by
    refine (Below.heap_alloc _ _ _ (by simp only [World.size_alloc]; omega)).trans ?_
    refine (Below.heap_alloc _ _ _ (by simp only [World.size_alloc]; omega)).trans ?_
    refine (Below.heap_alloc _ _ _ (by simp only [World.size_alloc]; omega)).trans ?_
    refine (Below.heap_alloc _ _ _ (by simp only [World.size_alloc]; omega)).trans ?_
    refine (Below.heap_alloc _ _ _ (by simp only [World.size_alloc]; omega)).trans ?_
    refine (Below.heap_alloc _ _ _ (by simp only [World.size_alloc]; omega)).trans ?_
    refine (Below.heap_alloc _ _ _ (by simp only [World.size_alloc]; omega)).trans ?_
    have h := heap_alloc_new ((w.alloc (.cells #[.int .i64 13, .int .i64 0, .int .i64 0, .slice none 0 0] 40)).alloc (.cells #[.slice none 0 0, .slice (some ⟨w.heap.size, 0, none⟩) 1 1] 38)) (.cells #[.int .i64 1] 3)
    try simp only [World.size_alloc] at h
    exact h
  have e3 : (((((((((((w.alloc (.cells #[.int .i64 13, .int .i64 0, .int .i64 0, .slice none 0 0] 40)).alloc (.cells #[.slice none 0 0, .slice (some ⟨w.heap.size, 0, none⟩) 1 1] 38)).alloc (.cells #[.int .i64 1] 3)).alloc (.cells #[.int .i64 0] 3)).alloc (.cells #[.slice (some ⟨w.heap.size + 1 + 1, 0, none⟩) 1 1, .slice (some ⟨w.heap.size + 1 + 1 + 1, 0, none⟩) 1 1] 24)).alloc (.cells #[.int .i64 0] 3)).alloc (.cells #[.int .i64 0] 3)).alloc (.cells #[.int .i64 1] 3)).alloc (.cells #[.slice (some ⟨w.heap.size + 1 + 1 + 1 + 1 + 1 + 1, 0, none⟩) 1 1, .slice (some ⟨w.heap.size + 1 + 1 + 1 + 1 + 1 + 1 + 1, 0, none⟩) 1 1] 24)).alloc (.cells #[.slice (some ⟨w.heap.size + 1, 0, none⟩) 2 2, .slice (some ⟨w.heap.size + 1 + 1 + 1 + 1, 0, none⟩) 2 2, .slice (some ⟨w.heap.size + 1 + 1 + 1 + 1 + 1, 0, none⟩) 1 1, .slice (some ⟨w.heap.size + 1 + 1 + 1 + 1 + 1 + 1 + 1 + 1, 0, none⟩) 2 2] 26))).heap[w.heap.size + 1 + 1 + 1]? = some (.cells #[.int .i64 0] 3 (0, 0)) := by
    refine (Below.heap_alloc _ _ _ (by simp only [World.size_alloc]; omega)).trans ?_
    refine (Below.heap_alloc _ _ _ (by simp only [World.size_alloc]; omega)).trans ?_
    refine (Below.heap_alloc _ _ _ (by simp only [World.size_alloc]; omega)).trans ?_
    refine (Below.heap_alloc _ _ _ (by simp only [World.size_alloc]; omega)).trans ?_
    refine (Below.heap_alloc _ _ _ (by simp only [World.size_alloc]; omega)).trans ?_
    refine (Below.heap_alloc _ _ _ (by simp only [World.size_alloc]; omega)).trans ?_
    have h := heap_alloc_new (((w.alloc (.cells #[.int .i64 13, .int .i64 0, .int .i64 0, .slice none 0 0] 40)).alloc (.cells #[.slice none 0 0, .slice (some ⟨w.heap.size, 0, none⟩) 1 1] 38)).alloc (.cells #[.int .i64 1] 3)) (.cells #[.int .i64 0] 3)
    try simp only [World.size_alloc] at h
    exact h
  have e4 : (((((((((((w.alloc (.cells #[.int .i64 13, .int .i64 0, .int .i64 0, .slice none 0 0] 40)).alloc (.cells #[.slice none 0 0, .slice (some ⟨w.heap.size, 0, none⟩) 1 1] 38)).alloc (.cells #[.int .i64 1] 3)).alloc (.cells #[.int .i64 0] 3)).alloc (.cells #[.slice (some ⟨w.heap.size + 1 + 1, 0, none⟩) 1 1, .slice (some ⟨w.heap.size + 1 + 1 + 1, 0, none⟩) 1 1] 24)).alloc (.cells #[.int .i64 0] 3)).alloc (.cells #[.int .i64 0] 3)).alloc (.cells #[.int .i64 1] 3)).alloc (.cells #[.slice (some ⟨w.heap.size + 1 + 1 + 1 + 1 + 1 + 1, 0, none⟩) 1 1, .slice (some ⟨w.heap.size + 1 + 1 + 1 + 1 + 1 + 1 + 1, 0, none⟩) 1 1] 24)).alloc (.cells #[.slice (some ⟨w.heap.size + 1, 0, none⟩) 2 2, .slice (some ⟨w.heap.size + 1 + 1 + 1 + 1, 0, none⟩) 2 2, .slice (some ⟨w.heap.size + 1 + 1 + 1 + 1 + 1, 0, none⟩) 1 1, .slice (some ⟨w.heap.size + 1 + 1 + 1 + 1 + 1 + 1 + 1 + 1, 0, none⟩) 2 2] 26))).heap[w.heap.size + 1 + 1 + 1 + 1]? = some (.cells #[.slice (some ⟨w.heap.size + 1 + 1, 0, none⟩) 1 1, .slice (some ⟨w.heap.size + 1 + 1 + 1, 0, none⟩) 1 1] 24 (0, 0)) := by
    refine (Below.heap_alloc _ _ _ (by simp only [World.size_alloc]; omega)).trans ?_
    refine (Below.heap_alloc _ _ _ (by simp only [World.size_alloc]; omega)).trans ?_
    refine (Below.heap_alloc _ _ _ (by simp only [World.size_alloc]; omega)).trans ?_
    refine (Below.heap_alloc _ _ _ (by simp only [World.size_alloc]; omega)).trans ?_
    refine (Below.heap_alloc _ _ _ (by simp only [World.size_alloc]; omega)).trans ?_
    have h := heap_alloc_new ((((w.alloc (.cells #[.int .i64 13, .int .i64 0, .int .i64 0, .slice none 0 0] 40)).alloc (.cells #[.slice none 0 0, .slice (some ⟨w.heap.size, 0, none⟩) 1 1] 38)).alloc (.cells #[.int .i64 1] 3)).alloc (.cells #[.int .i64 0] 3)) (.cells #[.slice (some ⟨w.heap.size + 1 + 1, 0, none⟩) 1 1, .slice (some ⟨w.heap.size + 1 + 1 + 1, 0, none⟩) 1 1] 24)
    try simp only [World.size_alloc] at h
    exact h
  have e5 : (((((((((((w.alloc (.cells #[.int .i64 13, .int .i64 0, .int .i64 0, .slice none 0 0] 40)).alloc (.cells #[.slice none 0 0, .slice (some ⟨w.heap.size, 0, none⟩) 1 1] 38)).alloc (.cells #[.int .i64 1] 3)).alloc (.cells #[.int .i64 0] 3)).alloc (.cells #[.slice (some ⟨w.heap.size + 1 + 1, 0, none⟩) 1 1, .slice (some ⟨w.heap.size + 1 + 1 + 1, 0, none⟩) 1 1] 24)).alloc (.cells #[.int .i64 0] 3)).alloc (.cells #[.int .i64 0] 3)).alloc (.cells #[.int .i64 1] 3)).alloc (.cells #[.slice (some ⟨w.heap.size + 1 + 1 + 1 + 1 + 1 + 1, 0, none⟩) 1 1, .slice (some ⟨w.heap.size + 1 + 1 + 1 + 1 + 1 + 1 + 1, 0, none⟩) 1 1] 24)).alloc (.cells #[.slice (some ⟨w.heap.size + 1, 0, none⟩) 2 2, .slice (some ⟨w.heap.size + 1 + 1 + 1 + 1, 0, none⟩) 2 2, .slice (some ⟨w.heap.size + 1 + 1 + 1 + 1 + 1, 0, none⟩) 1 1, .slice (some ⟨w.heap.size + 1 + 1 + 1 + 1 + 1 + 1 + 1 + 1, 0, none⟩) 2 2] 26))).heap[w.heap.size + 1 + 1 + 1 + 1 + 1]? = some (.cells #[.int .i64 0] 3 (0, 0)) := by
    refine (Below.heap_alloc _ _ _ (by simp only [World.size_alloc]; omega)).trans ?_
    refine (Below.heap_alloc _ _ _ (by simp only [World.size_alloc]; omega)).trans ?_
    refine (Below.heap_alloc _ _ _ (by simp only [World.size_alloc]; omega)).trans ?_
    refine (Below.heap_alloc _ _ _ (by simp only [World.size_alloc]; omega)).trans ?_
    have h := heap_alloc_new (((((w.alloc (.cells #[.int .i64 13, .int .i64 0, .int .i64 0, .slice none 0 0] 40)).alloc (.cells #[.slice none 0 0, .slice (some ⟨w.heap.size, 0, none⟩) 1 1] 38)).alloc (.cells #[.int .i64 1] 3)).alloc (.cells #[.int .i64 0] 3)).alloc (.cells #[.slice (some ⟨w.heap.size + 1 + 1, 0, none⟩) 1 1, .slice (some ⟨w.heap.size + 1 + 1 + 1, 0, none⟩) 1 1] 24)) (.cells #[.int .i64 0] 3)
    try simp only [World.size_alloc] at h
    exact h
  have e6 : (((((((((((w.alloc (.cells #[.int .i64 13, .int .i64 0, .int .i64 0, .slice none 0 0] 40)).alloc (.cells #[.slice none 0 0, .slice (some ⟨w.heap.size, 0, none⟩) 1 1] 38)).alloc (.cells #[.int .i64 1] 3)).alloc (.cells #[.int .i64 0] 3)).alloc (.cells #[.slice (some ⟨w.heap.size + 1 + 1, 0, none⟩) 1 1, .slice (some ⟨w.heap.size + 1 + 1 + 1, 0, none⟩) 1 1] 24)).alloc (.cells #[.int .i64 0] 3)).alloc (.cells #[.int .i64 0] 3)).alloc (.cells #[.int .i64 1] 3)).alloc (.cells #[.slice (some ⟨w.heap.size + 1 + 1 + 1 + 1 + 1 + 1, 0, none⟩) 1 1, .slice (some ⟨w.heap.size + 1 + 1 + 1 + 1 + 1 + 1 + 1, 0, none⟩) 1 1] 24)).alloc (.cells #[.slice (some ⟨w.heap.size + 1, 0, none⟩) 2 2, .slice (some ⟨w.heap.size + 1 + 1 + 1 + 1, 0, none⟩) 2 2, .slice (some ⟨w.heap.size + 1 + 1 + 1 + 1 + 1, 0, none⟩) 1 1, .slice (some ⟨w.heap.size + 1 + 1 + 1 + 1 + 1 + 1 + 1 + 1, 0, none⟩) 2 2] 26))).heap[w.heap.size + 1 + 1 + 1 + 1 + 1 + 1]? = some (.cells #[.int .i64 0] 3 (0, 0)) := by
    refine (Below.heap_alloc _ _ _ (by simp only [World.size_alloc]; omega)).trans ?_
    refine (Below.heap_alloc _ _ _ (by simp only [World.size_alloc]; omega)).trans ?_
    refine (Below.heap_alloc _ _ _ (by simp only [World.size_alloc]; omega)).trans ?_
    have h := heap_alloc_new ((((((w.alloc (.cells #[.int .i64 13, .int .i64 0, .int .i64 0, .slice none 0 0] 40)).alloc (.cells #[.slice none 0 0, .slice (some ⟨w.heap.size, 0, none⟩) 1 1] 38)).alloc (.cells #[.int .i64 1] 3)).alloc (.cells #[.int .i64 0] 3)).alloc (.cells #[.slice (some ⟨w.heap.size + 1 + 1, 0, none⟩) 1 1, .slice (some ⟨w.heap.size + 1 + 1 + 1, 0, none⟩) 1 1] 24)).alloc (.cells #[.int .i64 0] 3)) (.cells #[.int .i64 0] 3)
    try simp only [World.size_alloc] at h
    exact h
  have e7 : (((((((((((w.alloc (.cells #[.int .i64 13, .int .i64 0, .int .i64 0, .slice none 0 0] 40)).alloc (.cells #[.slice none 0 0, .slice (some ⟨w.heap.size, 0, none⟩) 1 1] 38)).alloc (.cells #[.int .i64 1] 3)).alloc (.cells #[.int .i64 0] 3)).alloc (.cells #[.slice (some ⟨w.heap.size + 1 + 1, 0, none⟩) 1 1, .slice (some ⟨w.heap.size + 1 + 1 + 1, 0, none⟩) 1 1] 24)).alloc (.cells #[.int .i64 0] 3)).alloc (.cells #[.int .i64 0] 3)).alloc (.cells #[.int .i64 1] 3)).alloc (.cells #[.slice (some ⟨w.heap.size + 1 + 1 + 1 + 1 + 1 + 1, 0, none⟩) 1 1, .slice (some ⟨w.heap.size + 1 + 1 + 1 + 1 + 1 + 1 + 1, 0, none⟩) 1 1] 24)).alloc (.cells #[.slice (some ⟨w.heap.size + 1, 0, none⟩) 2 2, .slice (some ⟨w.heap.size + 1 + 1 + 1 + 1, 0, none⟩) 2 2, .slice (some ⟨w.heap.size + 1 + 1 + 1 + 1 + 1, 0, none⟩) 1 1, .slice (some ⟨w.heap.size + 1 + 1 + 1 + 1 + 1 + 1 + 1 + 1, 0, none⟩) 2 2] 26))).heap[w.heap.size + 1 + 1 + 1 + 1 + 1 + 1 + 1]? = some (.cells #[.int .i64 1] 3 (0, 0)) := by
    refine (Below.heap_alloc _ _ _ (by simp only [World.size_alloc]; omega)).trans ?_
    refine (Below.heap_alloc _ _ _ (by simp only [World.size_alloc]; omega)).trans ?_
    have h := heap_alloc_new (((((((w.alloc (.cells #[.int .i64 13, .int .i64 0, .int .i64 0, .slice none 0 0] 40)).alloc (.cells #[.slice none 0 0, .slice (some ⟨w.heap.size, 0, none⟩) 1 1] 38)).alloc (.cells #[.int .i64 1] 3)).alloc (.cells #[.int .i64 0] 3)).alloc (.cells #[.slice (some ⟨w.heap.size + 1 + 1, 0, none⟩) 1 1, .slice (some ⟨w.heap.size + 1 + 1 + 1, 0, none⟩) 1 1] 24)).alloc (.cells #[.int .i64 0] 3)).alloc (.cells #[.int .i64 0] 3)) (.cells #[.int .i64 1] 3)
    try simp only [World.size_alloc] at h
    exact h
  have e8 : (((((((((((w.alloc (.cells #[.int .i64 13, .int .i64 0, .int .i64 0, .slice none 0 0] 40)).alloc (.cells #[.slice none 0 0, .slice (some ⟨w.heap.size, 0, none⟩) 1 1] 38)).alloc (.cells #[.int .i64 1] 3)).alloc (.cells #[.int .i64 0] 3)).alloc (.cells #[.slice (some ⟨w.heap.size + 1 + 1, 0, none⟩) 1 1, .slice (some ⟨w.heap.size + 1 + 1 + 1, 0, none⟩) 1 1] 24)).alloc (.cells #[.int .i64 0] 3)).alloc (.cells #[.int .i64 0] 3)).alloc (.cells #[.int .i64 1] 3)).alloc (.cells #[.slice (some ⟨w.heap.size + 1 + 1 + 1 + 1 + 1 + 1, 0, none⟩) 1 1, .slice (some ⟨w.heap.size + 1 + 1 + 1 + 1 + 1 + 1 + 1, 0, none⟩) 1 1] 24)).alloc (.cells #[.slice (some ⟨w.heap.size + 1, 0, none⟩) 2 2, .slice (some ⟨w.heap.size + 1 + 1 + 1 + 1, 0, none⟩) 2 2, .slice (some ⟨w.heap.size + 1 + 1 + 1 + 1 + 1, 0, none⟩) 1 1, .slice (some ⟨w.heap.size + 1 + 1 + 1 + 1 + 1 + 1 + 1 + 1, 0, none⟩) 2 2] 26))).heap[w.heap.size + 1 + 1 + 1 + 1 + 1 + 1 + 1 + 1]? = some (.cells #[.slice (some ⟨w.heap.size + 1 + 1 + 1 + 1 + 1 + 1, 0, none⟩) 1 1, .slice (some ⟨w.heap.size + 1 + 1 + 1 + 1 + 1 + 1 + 1, 0, none⟩) 1 1] 24 (0, 0)) := by
    refine (Below.heap_alloc _ _ _ (by simp only [World.size_alloc]; omega)).trans ?_
    have h := heap_alloc_new ((((((((w.alloc (.cells #[.int .i64 13, .int .i64 0, .int .i64 0, .slice none 0 0] 40)).alloc (.cells #[.slice none 0 0, .slice (some ⟨w.heap.size, 0, none⟩) 1 1] 38)).alloc (.cells #[.int .i64 1] 3)).alloc (.cells #[.int .i64 0] 3)).alloc (.cells #[.slice (some ⟨w.heap.size + 1 + 1, 0, none⟩) 1 1, .slice (some ⟨w.heap.size + 1 + 1 + 1, 0, none⟩) 1 1] 24)).alloc (.cells #[.int .i64 0] 3)).alloc (.cells #[.int .i64 0] 3)).alloc (.cells #[.int .i64 1] 3)) (.cells #[.slice (some ⟨w.heap.size + 1 + 1 + 1 + 1 + 1 + 1, 0, none⟩) 1 1, .slice (some ⟨w.heap.size + 1 + 1 + 1 + 1 + 1 + 1 + 1, 0, none⟩) 1 1] 24)
    try simp only [World.size_alloc] at h
    exact h
  have e9 : (((((((((((w.alloc (.cells #[.int .i64 13, .int .i64 0, .int .i64 0, .slice none 0 0] 40)).alloc (.cells #[.slice none 0 0, .slice (some ⟨w.heap.size, 0, none⟩) 1 1] 38)).alloc (.cells #[.int .i64 1] 3)).alloc (.cells #[.int .i64 0] 3)).alloc (.cells #[.slice (some ⟨w.heap.size + 1 + 1, 0, none⟩) 1 1, .slice (some ⟨w.heap.size + 1 + 1 + 1, 0, none⟩) 1 1] 24)).alloc (.cells #[.int .i64 0] 3)).alloc (.cells #[.int .i64 0] 3)).alloc (.cells #[.int .i64 1] 3)).alloc (.cells #[.slice (some ⟨w.heap.size + 1 + 1 + 1 + 1 + 1 + 1, 0, none⟩) 1 1, .slice (some ⟨w.heap.size + 1 + 1 + 1 + 1 + 1 + 1 + 1, 0, none⟩) 1 1] 24)).alloc (.cells #[.slice (some ⟨w.heap.size + 1, 0, none⟩) 2 2, .slice (some ⟨w.heap.size + 1 + 1 + 1 + 1, 0, none⟩) 2 2, .slice (some ⟨w.heap.size + 1 + 1 + 1 + 1 + 1, 0, none⟩) 1 1, .slice (some ⟨w.heap.size + 1 + 1 + 1 + 1 + 1 + 1 + 1 + 1, 0, none⟩) 2 2] 26))).heap[w.heap.size + 1 + 1 + 1 + 1 + 1 + 1 + 1 + 1 + 1]? = some (.cells #[.slice (some ⟨w.heap.size + 1, 0, none⟩) 2 2, .slice (some ⟨w.heap.size + 1 + 1 + 1 + 1, 0, none⟩) 2 2, .slice (some ⟨w.heap.size + 1 + 1 + 1 + 1 + 1, 0, none⟩) 1 1, .slice (some ⟨w.heap.size + 1 + 1 + 1 + 1 + 1 + 1 + 1 + 1, 0, none⟩) 2 2] 26 (0, 0)) := by
    have h := heap_alloc_new (((((((((w.alloc (.cells #[.int .i64 13, .int .i64 0, .int .i64 0, .slice none 0 0] 40)).alloc (.cells #[.slice none 0 0, .slice (some ⟨w.heap.size, 0, none⟩) 1 1] 38)).alloc (.cells #[.int .i64 1] 3)).alloc (.cells #[.int .i64 0] 3)).alloc (.cells #[.slice (some ⟨w.heap.size + 1 + 1, 0, none⟩) 1 1, .slice (some ⟨w.heap.size + 1 + 1 + 1, 0, none⟩) 1 1] 24)).alloc (.cells #[.int .i64 0] 3)).alloc (.cells #[.int .i64 0] 3)).alloc (.cells #[.int .i64 1] 3)).alloc (.cells #[.slice (some ⟨w.heap.size + 1 + 1 + 1 + 1 + 1 + 1, 0, none⟩) 1 1, .slice (some ⟨w.heap.size + 1 + 1 + 1 + 1 + 1 + 1 + 1, 0, none⟩) 1 1] 24)) (.cells #[.slice (some ⟨w.heap.size + 1, 0, none⟩) 2 2, .slice (some ⟨w.heap.size + 1 + 1 + 1 + 1, 0, none⟩) 2 2, .slice (some ⟨w.heap.size + 1 + 1 + 1 + 1 + 1, 0, none⟩) 1 1, .slice (some ⟨w.heap.size + 1 + 1 + 1 + 1 + 1 + 1 + 1 + 1, 0, none⟩) 2 2] 26)
    try simp only [World.size_alloc] at h
    exact h
  have bt : Below w.heap.size w ((((((((((w.alloc (.cells #[.int .i64 13, .int .i64 0, .int .i64 0, .slice none 0 0] 40)).alloc (.cells #[.slice none 0 0, .slice (some ⟨w.heap.size, 0, none⟩) 1 1] 38)).alloc (.cells #[.int .i64 1] 3)).alloc (.cells #[.int .i64 0] 3)).alloc (.cells #[.slice (some ⟨w.heap.size + 1 + 1, 0, none⟩) 1 1, .slice (some ⟨w.heap.size + 1 + 1 + 1, 0, none⟩) 1 1] 24)).alloc (.cells #[.int .i64 0] 3)).alloc (.cells #[.int .i64 0] 3)).alloc (.cells #[.int .i64 1] 3)).alloc (.cells #[.slice (some ⟨w.heap.size + 1 + 1 + 1 + 1 + 1 + 1, 0, none⟩) 1 1, .slice (some ⟨w.heap.size + 1 + 1 + 1 + 1 + 1 + 1 + 1, 0, none⟩) 1 1] 24)).alloc (.cells #[.slice (some ⟨w.heap.size + 1, 0, none⟩) 2 2, .slice (some ⟨w.heap.size + 1 + 1 + 1 + 1, 0, none⟩) 2 2, .slice (some ⟨w.heap.size + 1 + 1 + 1 + 1 + 1, 0, none⟩) 1 1, .slice (some ⟨w.heap.size + 1 + 1 + 1 + 1 + 1 + 1 + 1 + 1, 0, none⟩) 2 2] 26)) := by
    exact (((((((((((Below.refl _ _).alloc (Nat.le_refl _) _).alloc (by simp only [World.size_alloc]; omega) _).alloc (by simp only [World.size_alloc]; omega) _).alloc (by simp only [World.size_alloc]; omega) _).alloc (by simp only [World.size_alloc]; omega) _).alloc (by simp only [World.size_alloc]; omega) _).alloc (by simp only [World.size_alloc]; omega) _).alloc (by simp only [World.size_alloc]; omega) _).alloc (by simp only [World.size_alloc]; omega) _).alloc (by simp only [World.size_alloc]; omega) _)
  go_enter Try.func4, Try.ntmps4
  go_upto_region 2 with fail
  obtain ⟨W1, hW⟩ : ∃ W, ((((((((((w.alloc (.cells #[.int .i64 13, .int .i64 0, .int .i64 0, .slice none 0 0] 40)).alloc (.cells #[.slice none 0 0, .slice (some ⟨w.heap.size, 0, none⟩) 1 1] 38)).alloc (.cells #[.int .i64 1] 3)).alloc (.cells #[.int .i64 0] 3)).alloc (.cells #[.slice (some ⟨w.heap.size + 1 + 1, 0, none⟩) 1 1, .slice (some ⟨w.heap.size + 1 + 1 + 1, 0, none⟩) 1 1] 24)).alloc (.cells #[.int .i64 0] 3)).alloc (.cells #[.int .i64 0] 3)).alloc (.cells #[.int .i64 1] 3)).alloc (.cells #[.slice (some ⟨w.heap.size + 1 + 1 + 1 + 1 + 1 + 1, 0, none⟩) 1 1, .slice (some ⟨w.heap.size + 1 + 1 + 1 + 1 + 1 + 1 + 1, 0, none⟩) 1 1] 24)).alloc (.cells #[.slice (some ⟨w.heap.size + 1, 0, none⟩) 2 2, .slice (some ⟨w.heap.size + 1 + 1 + 1 + 1, 0, none⟩) 2 2, .slice (some ⟨w.heap.size + 1 + 1 + 1 + 1 + 1, 0, none⟩) 1 1, .slice (some ⟨w.heap.size + 1 + 1 + 1 + 1 + 1 + 1 + 1 + 1, 0, none⟩) 2 2] 26)) = W := ⟨_, rfl⟩
  rw [hW] at e0 e1 e2 e3 e4 e5 e6 e7 e8 e9 bt ⊢
  clear hW
  have hA : AutAt W1 (some ⟨w.heap.size + 1, 0, none⟩) (some ⟨w.heap.size + 1 + 1 + 1 + 1, 0, none⟩) (some ⟨w.heap.size + 1 + 1 + 1 + 1 + 1, 0, none⟩) (some ⟨w.heap.size + 1 + 1 + 1 + 1 + 1 + 1 + 1 + 1, 0, none⟩) 2 2 1 2 shLn (fun _ _ => shT) shNx [0] shAc := by
    refine ⟨.inr ⟨_, 0, rfl, (Array.getElem?_eq_some_iff.1 e1).1, fun i hi => ?_⟩, word_two e4 e2 e3 rfl rfl, int_block e5, word_two e8 e6 e7 rfl rfl, by decide, by decide, by decide⟩
    rcases (by omega : i = 0 ∨ i = 1) with rfl | rfl
    · exact ⟨none, 0, cell_of_row _ _ 0 _ _ _ e1, by decide, .inl rfl⟩
    · refine ⟨_, 1, cell_of_row _ _ 1 _ _ _ e1, by decide, .inr ⟨_, 0, rfl, (Array.getElem?_eq_some_iff.1 e0).1, fun j hj => ?_⟩⟩
      have hj0 : j = 0 := by have : shLn 1 = 1 := rfl; omega
      subst hj0
      exact ⟨13, 0, 0, none, 0, 0, cell_of_row _ _ 0 _ _ _ e0, cell_of_row _ _ 1 _ _ _ e0, cell_of_row _ _ 2 _ _ _ e0, cell_of_row _ _ 3 _ _ _ e0, none, 0, rfl, by decide, by decide, by decide, by decide, (fun _ => ⟨rfl, rfl⟩), .inl rfl⟩
  have a0 := cell_of_row _ _ 0 _ _ _ e9
  have a1 := cell_of_row _ _ 1 _ _ _ e9
  have a2 := cell_of_row _ _ 2 _ _ _ e9
  have a3 := cell_of_row _ _ 3 _ _ _ e9
  simp only [List.getElem?_toArray, List.getElem?_cons_zero, List.getElem?_cons_succ] at a0 a1 a2 a3
  have HA := Lib.hid hA
  clear e0 e1 e2 e3 e4 e5 e6 e7 e8 e9 hA
  go_wp2_with fail
  refine (of_shown W1 _ _ _ _ HA.out).mono ?_
  rintro e w2 ⟨⟨la2, na2, ia2, ca2, lc2, nc2, ic2, cc2, rfl, hL, hN, hI, hC⟩, b2⟩
  replace bt := below_then bt b2
  clear a0 a1 a2 a3 HA b2
  have bA : Below w2.heap.size w2 (w2.alloc (.cells #[.slice la2 4 lc2, .slice na2 4 nc2, .slice ia2 1 ic2, .slice ca2 1 cc2] 26)) := (Below.refl _ _).alloc (Nat.le_refl _) _
  have pB := heap_alloc_new w2 (.cells #[.slice la2 4 lc2, .slice na2 4 nc2, .slice ia2 1 ic2, .slice ca2 1 cc2] 26)
  have hs2 := bt.size
  go_upto_region 3 with fail
  obtain ⟨W3, hW⟩ : ∃ W, w2.alloc (.cells #[.slice la2 4 lc2, .slice na2 4 nc2, .slice ia2 1 ic2, .slice ca2 1 cc2] 26) = W := ⟨_, rfl⟩
  rw [hW] at bA pB ⊢
  obtain ⟨gB, hg⟩ : ∃ g, w2.heap.size = g := ⟨_, rfl⟩
  replace hN := hN.mono bA
  replace hL := hL.mono bA
  replace hI := hI.mono bA
  replace hC := hC.mono bA
  replace bt := below_then bt bA
  rw [hg] at pB ⊢
  clear hW hg bA hs2
  obtain ⟨bN, oN, rfl, hbN, hrow⟩ := hN.resolve_left (by decide)
  obtain ⟨bC, oC, rfl, hbC, hrc⟩ := hC.resolve_left (by decide)
  obtain ⟨bL, oL, rfl, hbL, hrl⟩ := hL.resolve_left (by decide)
  obtain ⟨x0, l0, c0, m0, i0⟩ := hrow 0 (by decide)
  obtain ⟨x1, l1, c1, m1, i1⟩ := hrow 1 (by decide)
  obtain ⟨x2, l2, c2, m2, i2⟩ := hrow 2 (by decide)
  obtain ⟨x3, l3, c3, m3, i3⟩ := hrow 3 (by decide)
  obtain ⟨x5, l5, c5, m5, i5⟩ := hrc 0 (by decide)
  obtain ⟨y0, d0, n0, _, _⟩ := hrl 0 (by decide)
  obtain ⟨y3, d3, n3, _, _⟩ := hrl 3 (by decide)
  change W3.cell? ⟨bL, oL + 0, none⟩ = some (.slice y0 0 d0) at n0
  change W3.cell? ⟨bL, oL + 3, none⟩ = some (.slice y3 1 d3) at n3
  rw [show shF 0 = [3] from rfl] at i0
  rw [show shF 1 = [3] from rfl] at i1
  rw [show shF 2 = [0] from rfl] at i2
  rw [show shF 3 = [0] from rfl] at i3
  rw [Nat.add_zero] at m0 m5 n0
  clear hrow hrc hrl hN hC hL
  have b3 : Below W3.heap.size W3 W3 := Below.refl _ _
  have pBk := (b3.block gB (Array.getElem?_eq_some_iff.1 pB).1).trans pB
  have q0 := cell_of_row _ _ 0 _ _ _ pBk
  have q1 := cell_of_row _ _ 1 _ _ _ pBk
  have q2 := cell_of_row _ _ 2 _ _ _ pBk
  have q3 := cell_of_row _ _ 3 _ _ _ pBk
  simp only [List.getElem?_toArray, List.getElem?_cons_zero, List.getElem?_cons_succ] at q0 q1 q2 q3
  have qm := (b3.cell (p := ⟨bN, oN, none⟩) hbN).trans m0
  go_wp2_with fail
  have bA0 : Below W3.heap.size W3 (W3.alloc (.cells #[.int .i64 3] 3)) := b3.alloc b3.size _
  have kk := vec_any (W3.alloc (.cells #[.int .i64 3] 3)) x0 l0 c0 (some ⟨W3.heap.size, 0, none⟩) 1 1 _ [3] (i0.mono bA0) (int_block (heap_alloc_new _ _))
  rw [decide_eq_true rfl] at kk
  refine kk.mono ?_
  rintro e W4 ⟨rfl, bV⟩
  replace b3 := bA0.trans (bV.mono bA0.size)
  clear kk bV bA0 pBk q0 q1 q2 q3 qm
  have pBk := (b3.block gB (Array.getElem?_eq_some_iff.1 pB).1).trans pB
  have q0 := cell_of_row _ _ 0 _ _ _ pBk
  have q1 := cell_of_row _ _ 1 _ _ _ pBk
  have q2 := cell_of_row _ _ 2 _ _ _ pBk
  have q3 := cell_of_row _ _ 3 _ _ _ pBk
  simp only [List.getElem?_toArray, List.getElem?_cons_zero, List.getElem?_cons_succ] at q0 q1 q2 q3
  have qm := (b3.cell (p := ⟨bN, oN + 1, none⟩) hbN).trans m1
  go_wp2_with fail
  have bA1 : Below W3.heap.size W3 (W4.alloc (.cells #[.int .i64 3] 3)) := b3.alloc b3.size _
  have kk := vec_any (W4.alloc (.cells #[.int .i64 3] 3)) x1 l1 c1 (some ⟨W4.heap.size, 0, none⟩) 1 1 _ [3] (i1.mono bA1) (int_block (heap_alloc_new _ _))
  rw [decide_eq_true rfl] at kk
  refine kk.mono ?_
  rintro e W5 ⟨rfl, bV⟩
  replace b3 := bA1.trans (bV.mono bA1.size)
  clear kk bV bA1 pBk q0 q1 q2 q3 qm
  have pBk := (b3.block gB (Array.getElem?_eq_some_iff.1 pB).1).trans pB
  have q0 := cell_of_row _ _ 0 _ _ _ pBk
  have q1 := cell_of_row _ _ 1 _ _ _ pBk
  have q2 := cell_of_row _ _ 2 _ _ _ pBk
  have q3 := cell_of_row _ _ 3 _ _ _ pBk
  simp only [List.getElem?_toArray, List.getElem?_cons_zero, List.getElem?_cons_succ] at q0 q1 q2 q3
  have qm := (b3.cell (p := ⟨bN, oN + 2, none⟩) hbN).trans m2
  go_wp2_with fail
  have bA2 : Below W3.heap.size W3 (W5.alloc (.cells #[.int .i64 0] 3)) := b3.alloc b3.size _
  have kk := vec_any (W5.alloc (.cells #[.int .i64 0] 3)) x2 l2 c2 (some ⟨W5.heap.size, 0, none⟩) 1 1 _ [0] (i2.mono bA2) (int_block (heap_alloc_new _ _))
  rw [decide_eq_true rfl] at kk
  refine kk.mono ?_
  rintro e W6 ⟨rfl, bV⟩
  replace b3 := bA2.trans (bV.mono bA2.size)
  clear kk bV bA2 pBk q0 q1 q2 q3 qm
  have pBk := (b3.block gB (Array.getElem?_eq_some_iff.1 pB).1).trans pB
  have q0 := cell_of_row _ _ 0 _ _ _ pBk
  have q1 := cell_of_row _ _ 1 _ _ _ pBk
  have q2 := cell_of_row _ _ 2 _ _ _ pBk
  have q3 := cell_of_row _ _ 3 _ _ _ pBk
  simp only [List.getElem?_toArray, List.getElem?_cons_zero, List.getElem?_cons_succ] at q0 q1 q2 q3
  have qm := (b3.cell (p := ⟨bN, oN + 3, none⟩) hbN).trans m3
  go_wp2_with fail
  have bA3 : Below W3.heap.size W3 (W6.alloc (.cells #[.int .i64 0] 3)) := b3.alloc b3.size _
  have kk := vec_any (W6.alloc (.cells #[.int .i64 0] 3)) x3 l3 c3 (some ⟨W6.heap.size, 0, none⟩) 1 1 _ [0] (i3.mono bA3) (int_block (heap_alloc_new _ _))
  rw [decide_eq_true rfl] at kk
  refine kk.mono ?_
  rintro e W7 ⟨rfl, bV⟩
  replace b3 := bA3.trans (bV.mono bA3.size)
  clear kk bV bA3 pBk q0 q1 q2 q3 qm
  have pBk := (b3.block gB (Array.getElem?_eq_some_iff.1 pB).1).trans pB
  have q0 := cell_of_row _ _ 0 _ _ _ pBk
  have q1 := cell_of_row _ _ 1 _ _ _ pBk
  have q2 := cell_of_row _ _ 2 _ _ _ pBk
  have q3 := cell_of_row _ _ 3 _ _ _ pBk
  simp only [List.getElem?_toArray, List.getElem?_cons_zero, List.getElem?_cons_succ] at q0 q1 q2 q3
  go_wp2_with fail
  have bA4 : Below W3.heap.size W3 (W7.alloc (.cells #[.int .i64 0] 3)) := b3.alloc b3.size _
  have kk := vec_any (W7.alloc (.cells #[.int .i64 0] 3)) ia2 1 ic2 (some ⟨W7.heap.size, 0, none⟩) 1 1 _ [0] (hI.mono bA4) (int_block (heap_alloc_new _ _))
  rw [decide_eq_true rfl] at kk
  refine kk.mono ?_
  rintro e W8 ⟨rfl, bV⟩
  replace b3 := bA4.trans (bV.mono bA4.size)
  clear kk bV bA4 pBk q0 q1 q2 q3
  have pBk := (b3.block gB (Array.getElem?_eq_some_iff.1 pB).1).trans pB
  have q0 := cell_of_row _ _ 0 _ _ _ pBk
  have q1 := cell_of_row _ _ 1 _ _ _ pBk
  have q2 := cell_of_row _ _ 2 _ _ _ pBk
  have q3 := cell_of_row _ _ 3 _ _ _ pBk
  simp only [List.getElem?_toArray, List.getElem?_cons_zero, List.getElem?_cons_succ] at q0 q1 q2 q3
  have qm := (b3.cell (p := ⟨bC, oC, none⟩) hbC).trans m5
  go_wp2_with fail
  have bA5 : Below W3.heap.size W3 (W8.alloc (.cells #[.int .i64 0] 3)) := b3.alloc b3.size _
  have kk := vec_any (W8.alloc (.cells #[.int .i64 0] 3)) x5 l5 c5 (some ⟨W8.heap.size, 0, none⟩) 1 1 _ [0] (i5.mono bA5) (int_block (heap_alloc_new _ _))
  rw [decide_eq_true rfl] at kk
  refine kk.mono ?_
  rintro e W9 ⟨rfl, bV⟩
  replace b3 := bA5.trans (bV.mono bA5.size)
  clear kk bV bA5 pBk q0 q1 q2 q3 qm
  have pBk := (b3.block gB (Array.getElem?_eq_some_iff.1 pB).1).trans pB
  have q0 := cell_of_row _ _ 0 _ _ _ pBk
  simp only [List.getElem?_toArray, List.getElem?_cons_zero, List.getElem?_cons_succ] at q0
  have qm := (b3.cell (p := ⟨bL, oL, none⟩) hbL).trans n0
  have qn := (b3.cell (p := ⟨bL, oL + 3, none⟩) hbL).trans n3
  go_wp2_with fail
  go_ret
  exact ⟨rfl, bt.trans (b3.mono bt.size)⟩
end Go.Proofs.Ytpabnpgbclfcfaa
