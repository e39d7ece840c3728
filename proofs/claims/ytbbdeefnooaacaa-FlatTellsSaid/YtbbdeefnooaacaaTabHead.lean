/- The head of all statements of layer 4: the document's example holds (by gen04s.py). -/
import Derived.Test.YtbbdeefnooaacaaTabJ
import Derived.Lib.SlBytesConst
namespace Go.Proofs.Ytbbdeefnooaacaa
open Go.RowKit
set_option linter.unusedVariables false
set_option linter.unusedSimpArgs false

theorem bytesNew (w : World) (c : Nat) (hc : c < 256) : BytesAt (w.alloc (.cells #[.int .u8 (c : Int)] 5 (1, 2))) (some ⟨w.heap.size, 0, none⟩) 1 1 [c] := by
  refine ⟨rfl, by omega, by simpa using hc, nofun, .inr ⟨_, 0, rfl, by simp, fun i hi => ?_⟩⟩
  obtain rfl : i = 0 := by omega
  rw [World.cell?_alloc_mark]; rfl
theorem Grown.row {w w' : World} {B : Nat} {ka : Option Addr} {n kc : Nat} {sa : Option Addr} {sl sc kb kc' sb sl' sc' : Nat} {ks : List (List Nat)} {key : List Nat} (G : Grown w w' B ka n kc sa sl sc kb kc' sb sl' sc' ks key) {s : List Int} {rs : List (Nat × Nat)} (h : TabM w B ka n kc sa sl sc ks s rs)
    {g : Nat} {vs : Array Value} {t : TypeId} {fr : Nat × Nat} (hg : w.heap[g]? = some (.cells vs t fr)) (h1 : t ≠ 29) (h2 : t ≠ 3) : w'.heap[g]? = some (.cells vs t fr) := by
  have hlt := (Array.getElem?_eq_some_iff.1 hg).1
  refine (G.other g hlt ?_ ?_).trans hg
  · rintro rfl
    rcases G.place with ⟨e1, _⟩ | ⟨h3, _⟩
    · rcases h.mem with ⟨_, e, _⟩ | ⟨kb0, sb0, kcur, scur, e3, e4, r⟩
      · rw [e1] at e
        cases e
      · rw [e1] at e3
        cases e3
        rw [r.rowk] at hg
        simp at hg
        exact h1 hg.2.1.symm
    · omega
  · rintro rfl
    rcases G.place with ⟨_, e1, _⟩ | ⟨_, h3⟩
    · rcases h.mem with ⟨_, _, _, e, _⟩ | ⟨kb0, sb0, kcur, scur, e3, e4, r⟩
      · rw [e1] at e
        cases e
      · rw [e1] at e4
        cases e4
        rw [r.rows] at hg
        simp at hg
        exact h2 hg.2.1.symm
    · omega
theorem Grown.bel {w w' : World} {B : Nat} {ka : Option Addr} {n kc : Nat} {sa : Option Addr} {sl sc kb kc' sb sl' sc' : Nat} {ks : List (List Nat)} {key : List Nat} (G : Grown w w' B ka n kc sa sl sc kb kc' sb sl' sc' ks key) (hB : B ≤ w.heap.size) : Below B w w' := by
  obtain ⟨s', rs', T⟩ := G.tab
  exact G.below B hB (T.lt.1 _ rfl).2 (T.lt.2 _ rfl).2
theorem new_ok (w : World) (most : Int) (h : 0 ≤ most ∧ most ≤ 1048576) : Calls Try.prog 17 #[.int .i64 most] w fun e w' => e = .returned (.tuple #[.agg #[.int .i64 most, .slice none 0 0, .slice none 0 0], .int .i64 0]) ∧ Below w.heap.size w w' := by
  have := new_any w most
  rwa [if_pos h] at this
theorem new_bad (w : World) (most : Int) (h : ¬ (0 ≤ most ∧ most ≤ 1048576)) : Calls Try.prog 17 #[.int .i64 most] w fun e w' => e = .returned (.tuple #[.agg #[.int .i64 0, .slice none 0 0, .slice none 0 0], .int .i64 1]) ∧ Below w.heap.size w w' := by
  have := new_any w most
  rwa [if_neg h] at this
end Go.Proofs.Ytbbdeefnooaacaa
