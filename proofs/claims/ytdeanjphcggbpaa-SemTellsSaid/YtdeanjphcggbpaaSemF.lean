/- sem.Holds; formulas that the laws make (by gen17j.py). -/
import Derived.Test.YtdeanjphcggbpaaSemE
namespace Go.Proofs.Ytdeanjphcggbpaa
open Go.RowKit
set_option linter.unusedVariables false
set_option linter.unusedSimpArgs false
theorem TreeAt.shape {w : World} {t : T} {v : Value} (h : TreeAt w t v) : ∃ (op n pl : Int) (a : Option Addr) (len cap : Nat), v = .agg #[.int .i64 op, .int .i64 n, .int .i64 pl, .slice a len cap] := by
  cases t with
  | nil => exact h.elim
  | node op n pl len sub =>
    obtain ⟨a, cap, rfl, _⟩ := h
    exact ⟨op, n, pl, a, len, cap, rfl⟩
/-- A formula of one part, and of two. -/
def T.un (op : Int) (t : T) : T := .node op 0 0 1 fun _ => t
def T.bin (op : Int) (s t : T) : T := .node op 0 0 2 fun i => if i = 0 then s else t
theorem TreeAt.un {w : World} {g : Nat} {op o n p : Int} {a : Option Addr} {l c : Nat} {t : T} (ho : -9223372036854775808 ≤ op ∧ op ≤ 9223372036854775807) (hg : w.heap[g]? = some (.cells #[.int .i64 o, .int .i64 n, .int .i64 p, .slice a l c] 24 (0, 0)))
    (ht : TreeAt w t (.agg #[.int .i64 o, .int .i64 n, .int .i64 p, .slice a l c])) : TreeAt w (T.un op t) (.agg #[.int .i64 op, .int .i64 0, .int .i64 0, .slice (some ⟨g, 0, none⟩) 1 1]) := by
  refine ⟨_, 1, rfl, ho, by decide, by decide, by decide, nofun, .inr ⟨g, 0, rfl, (Array.getElem?_eq_some_iff.1 hg).1, fun i hi => ?_⟩⟩
  obtain rfl : i = 0 := by omega
  exact ⟨o, n, p, a, l, c, cell_of_row _ _ 0 _ _ _ hg, cell_of_row _ _ 1 _ _ _ hg, cell_of_row _ _ 2 _ _ _ hg, cell_of_row _ _ 3 _ _ _ hg, ht⟩
theorem TreeAt.bin {w : World} {g : Nat} {op o n p o' n' p' : Int} {a a' : Option Addr} {l c l' c' : Nat} {s t : T} (ho : -9223372036854775808 ≤ op ∧ op ≤ 9223372036854775807) (hg : w.heap[g]? = some (.cells #[.int .i64 o, .int .i64 n, .int .i64 p, .slice a l c, .int .i64 o', .int .i64 n', .int .i64 p', .slice a' l' c'] 24 (0, 0)))
    (hs : TreeAt w s (.agg #[.int .i64 o, .int .i64 n, .int .i64 p, .slice a l c])) (ht : TreeAt w t (.agg #[.int .i64 o', .int .i64 n', .int .i64 p', .slice a' l' c'])) : TreeAt w (T.bin op s t) (.agg #[.int .i64 op, .int .i64 0, .int .i64 0, .slice (some ⟨g, 0, none⟩) 2 2]) := by
  refine ⟨_, 2, rfl, ho, by decide, by decide, by decide, nofun, .inr ⟨g, 0, rfl, (Array.getElem?_eq_some_iff.1 hg).1, fun i hi => ?_⟩⟩
  rcases (by omega : i = 0 ∨ i = 1) with rfl | rfl
  · exact ⟨o, n, p, a, l, c, cell_of_row _ _ 0 _ _ _ hg, cell_of_row _ _ 1 _ _ _ hg, cell_of_row _ _ 2 _ _ _ hg, cell_of_row _ _ 3 _ _ _ hg, hs⟩
  · exact ⟨o', n', p', a', l', c', cell_of_row _ _ 4 _ _ _ hg, cell_of_row _ _ 5 _ _ _ hg, cell_of_row _ _ 6 _ _ _ hg, cell_of_row _ _ 7 _ _ _ hg, ht⟩
theorem heap3 (w : World) (A B C : Array Value) (t u v : TypeId) : (((w.alloc (.cells A t)).alloc (.cells B u)).alloc (.cells C v)).heap[w.heap.size + 1]? = some (.cells B u (0, 0)) ∧ (((w.alloc (.cells A t)).alloc (.cells B u)).alloc (.cells C v)).heap[w.heap.size + 1 + 1]? = some (.cells C v (0, 0)) ∧ Below w.heap.size w (((w.alloc (.cells A t)).alloc (.cells B u)).alloc (.cells C v)) := by
  refine ⟨?_, ?_, (((Below.refl _ _).alloc (Nat.le_refl _) _).alloc (by simp) _).alloc (by simp; omega) _⟩
  · have h := heap_alloc_new (w.alloc (.cells A t)) (.cells B u)
    rw [World.size_alloc] at h
    exact (Below.heap_alloc _ _ _ (by simp)).trans h
  · have h := heap_alloc_new ((w.alloc (.cells A t)).alloc (.cells B u)) (.cells C v)
    rw [World.size_alloc, World.size_alloc] at h
    exact h
theorem heap4 (w : World) (A A2 B C : Array Value) (t t2 u v : TypeId) : ((((w.alloc (.cells A t)).alloc (.cells A2 t2)).alloc (.cells B u)).alloc (.cells C v)).heap[w.heap.size + 1 + 1]? = some (.cells B u (0, 0)) ∧ ((((w.alloc (.cells A t)).alloc (.cells A2 t2)).alloc (.cells B u)).alloc (.cells C v)).heap[w.heap.size + 1 + 1 + 1]? = some (.cells C v (0, 0)) ∧ Below w.heap.size w ((((w.alloc (.cells A t)).alloc (.cells A2 t2)).alloc (.cells B u)).alloc (.cells C v)) := by
  obtain ⟨h1, h2, hb⟩ := heap3 (w.alloc (.cells A t)) A2 B C t2 u v
  rw [World.size_alloc] at h1 h2
  exact ⟨h1, h2, below_then ((Below.refl _ _).alloc (Nat.le_refl _) _) hb⟩
def TreeOut (t : T) (e : Ending) (w' : World) : Prop := ∃ v, e = .returned v ∧ TreeAt w' t v
theorem holds_any (w : World) (t : T) (v : Value) (wa : Option Addr) (wn wk l : Nat) (row : Nat → List Int) (ht : TreeAt w t v) (hr : WordAt w wa wn row) (hf : FmP t) (hwn : wn ≤ 1000000) (hl : l < wn) :
    Calls Try.prog 12 #[v, .agg #[.slice wa wn wk, .int .i64 (l : Nat)]] w fun e w' => e = .returned (.bool (hT wn l row t 0)) ∧ Below w.heap.size w w' := by
  obtain ⟨op, n, pl, a, len, cap, rfl⟩ := ht.shape
  have b1 : Below w.heap.size w ((w.alloc (.cells #[.int .i64 op, .int .i64 n, .int .i64 pl, .slice a len cap] 24)).alloc (.cells #[.slice wa wn wk, .int .i64 (l : Nat)] 27)) := ((Below.refl _ _).alloc (Nat.le_refl _) _).alloc (by simp) _
  have hA := fun (z : World) (hz : Below w.heap.size w z) => all_any t z _ wa wn wk l row (ht.mono hz) (hr.mono hz) hf hwn hl
  go_enter Try.func12, Try.ntmps12
  go_wp2_with fail
  refine (hA _ b1).mono ?_
  rintro e w1 ⟨⟨g, rfl, hg, hrow⟩, b2⟩
  have hc := World.rowIs.cell hrow (show 0 < wn by omega)
  have bt := below_then b1 b2
  obtain ⟨X, hX⟩ : ∃ X, hT wn l row t 0 = X := ⟨_, rfl⟩
  rw [hX] at hc
  have HX := Lib.hid hX
  have h1 : 0 < wn := by omega
  clear hX hA b1
  go_wp2_with fail
  go_ret
  exact ⟨by rw [HX.out]; rfl, bt⟩
end Go.Proofs.Ytdeanjphcggbpaa
