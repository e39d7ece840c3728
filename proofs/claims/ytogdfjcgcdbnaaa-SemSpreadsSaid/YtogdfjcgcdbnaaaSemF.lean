/- sem.Holds; formulas that the laws make (by gen17j.py). -/
import Derived.Test.YtogdfjcgcdbnaaaSemE
namespace Go.Proofs.Ytogdfjcgcdbnaaa
open Go.RowKit
set_option linter.unusedVariables false
set_option linter.unusedSimpArgs false
theorem TreeAt.shape {w : World} {t : T} {v : Value} (h : TreeAt w t v) : ∃ (op n pl : Int) (a : Option Addr) (len cap : Nat), v = .agg #[.int .i64 op, .int .i64 n, .int .i64 pl, .slice a len cap] := by
  cases t with
  | nil => exact h.elim
  | node op n pl len sub =>
    obtain ⟨a, cap, rfl, _⟩ := h
    exact ⟨op, n, pl, a, len, cap, rfl⟩
/-- A formula of one part, and of two. -/
def T.un (op : Int) (t : T) : T := .node op 0 0 1 fun _ => t
def T.bin (op : Int) (s t : T) : T := .node op 0 0 2 fun i => if i = 0 then s else t
theorem TreeAt.un {w : World} {g : Nat} {op o n p : Int} {a : Option Addr} {l c : Nat} {t : T} (ho : -9223372036854775808 ≤ op ∧ op ≤ 9223372036854775807) (hg : w.heap[g]? = some (.cells #[.int .i64 o, .int .i64 n, .int .i64 p, .slice a l c] 24 (0, 0)))
    (ht : TreeAt w t (.agg #[.int .i64 o, .int .i64 n, .int .i64 p, .slice a l c])) : TreeAt w (T.un op t) (.agg #[.int .i64 op, .int .i64 0, .int .i64 0, .slice (some ⟨g, 0, none⟩) 1 1]) := by
  refine ⟨_, 1, rfl, ho, by decide, by decide, by decide, nofun, .inr ⟨g, 0, rfl, (Array.getElem?_eq_some_iff.1 hg).1, fun i hi => ?_⟩⟩
  obtain rfl : i = 0 := by omega
  exact ⟨o, n, p, a, l, c, cell_of_row _ _ 0 _ _ _ hg, cell_of_row _ _ 1 _ _ _ hg, cell_of_row _ _ 2 _ _ _ hg, cell_of_row _ _ 3 _ _ _ hg, ht⟩
theorem TreeAt.bin {w : World} {g : Nat} {op o n p o' n' p' : Int} {a a' : Option Addr} {l c l' c' : Nat} {s t : T} (ho : -9223372036854775808 ≤ op ∧ op ≤ 9223372036854775807) (hg : w.heap[g]? = some (.cells #[.int .i64 o, .int .i64 n, .int .i64 p, .slice a l c, .int .i64 o', .int .i64 n', .int .i64 p', .slice a' l' c'] 24 (0, 0)))
    (hs : TreeAt w s (.agg #[.int .i64 o, .int .i64 n, .int .i64 p, .slice a l c])) (ht : TreeAt w t (.agg #[.int .i64 o', .int .i64 n', .int .i64 p', .slice a' l' c'])) : TreeAt w (T.bin op s t) (.agg #[.int .i64 op, .int .i64 0, .int .i64 0, .slice (some ⟨g, 0, none⟩) 2 2]) := by
  refine ⟨_, 2, rfl, ho, by decide, by decide, by decide, nofun, .inr ⟨g, 0, rfl, (Array.getElem?_eq_some_iff.1 hg).1, fun i hi => ?_⟩⟩
  rcases (by omega : i = 0 ∨ i = 1) with rfl | rfl
  · exact ⟨o, n, p, a, l, c, cell_of_row _ _ 0 _ _ _ hg, cell_of_row _ _ 1 _ _ _ hg, cell_of_row _ _ 2 _ _ _ hg, cell_of_row _ _ 3 _ _ _ hg, hs⟩
  · exact ⟨o', n', p', a', l', c', cell_of_row _ _ 4 _ _ _ hg, cell_of_row _ _ 5 _ _ _ hg, cell_of_row _ _ 6 _ _ _ hg, cell_of_row _ _ 7 _ _ _ hg, ht⟩
theorem heap3 (w : World) (A B C : Array Value) (t u v : TypeId) : (((w.alloc (.cells A t)).alloc (.cells B u)).alloc (.cells C v)).heap[w.heap.size + 1]? = some (.cells B u (0, 0)) ∧ (((w.alloc (.cells A t)).alloc (.cells B u)).alloc (.cells C v)).heap[w.heap.size + 1 + 1]? = some (.cells C v (0, 0)) ∧ Below w.heap.size w (((w.alloc (.cells A t)).alloc (.cells B u)).alloc (.cells C v)) := by
  refine ⟨?_, ?_, (((Below.refl _ _).alloc (Nat.le_refl _) _).alloc (by simp) _).alloc (by simp; omega) _⟩
  · have h := heap_alloc_new (w.alloc (.cells A t)) (.cells B u)
    rw [World.size_alloc] at h
    exact (Below.heap_alloc _ _ _ (by simp)).trans h
  · have h := heap_alloc_new ((w.alloc (.cells A t)).alloc (.cells B u)) (.cells C v)
    rw [World.size_alloc, World.size_alloc] at h
    exact h
theorem heap4 (w : World) (A A2 B C : Array Value) (t t2 u v : TypeId) : ((((w.alloc (.cells A t)).alloc (.cells A2 t2)).alloc (.cells B u)).alloc (.cells C v)).heap[w.heap.size + 1 + 1]? = some (.cells B u (0, 0)) ∧ ((((w.alloc (.cells A t)).alloc (.cells A2 t2)).alloc (.cells B u)).alloc (.cells C v)).heap[w.heap.size + 1 + 1 + 1]? = some (.cells C v (0, 0)) ∧ Below w.heap.size w ((((w.alloc (.cells A t)).alloc (.cells A2 t2)).alloc (.cells B u)).alloc (.cells C v)) := by
  obtain ⟨h1, h2, hb⟩ := heap3 (w.alloc (.cells A t)) A2 B C t2 u v
  rw [World.size_alloc] at h1 h2
  exact ⟨h1, h2, below_then ((Below.refl _ _).alloc (Nat.le_refl _) _) hb⟩
def TreeOut (t : T) (e : Ending) (w' : World) : Prop := ∃ v, e = .returned v ∧ TreeAt w' t v
theorem holds_any (w : World) (t : T) (v : Value) (wa : Option Addr) (wn wk l : Nat) (row : Nat → List Int) (ht : TreeAt w t v) (hr : WordAt w wa wn row) (hf : FmP t) (hwn : wn ≤ 1000000) (hl : l < wn) :
    Calls Try.prog 16 #[v, .agg #[.slice wa wn wk, .int .i64 (l : Nat)]] w fun e w' => e = .returned (.bool (hT wn l row t 0)) ∧ Below w.heap.size w w' := by
  obtain ⟨op, n, pl, a, len, cap, rfl⟩ := ht.shape
  have b1 : Below w.heap.size w ((w.alloc (.cells #[.int .i64 op, .int .i64 n, .int .i64 pl, .slice a len cap] 24)).alloc (.cells #[.slice wa wn wk, .int .i64 (l : Nat)] 27)) := ((Below.refl _ _).alloc (Nat.le_refl _) _).alloc (by simp) _
  have hA := fun (z : World) (hz : Below w.heap.size w z) => all_any t z _ wa wn wk l row (ht.mono hz) (hr.mono hz) hf hwn hl
  go_enter Try.func16, Try.ntmps16
  go_wp2_with fail
  refine (hA _ b1).mono ?_
  rintro e w1 ⟨⟨g, rfl, hg, hrow⟩, b2⟩
  have hc := World.rowIs.cell hrow (show 0 < wn by omega)
  have bt := below_then b1 b2
  obtain ⟨X, hX⟩ : ∃ X, hT wn l row t 0 = X := ⟨_, rfl⟩
  rw [hX] at hc
  have HX := Lib.hid hX
  have h1 : 0 < wn := by omega
  clear hX hA b1
  go_wp2_with fail
  go_ret
  exact ⟨by rw [HX.out]; rfl, bt⟩
set_option maxRecDepth 20000 in
theorem one_full (w : World) (op o n pl : Int) (a : Option Addr) (len cap : Nat) :
    Calls Try.prog 14 #[.int .i64 op, .agg #[.int .i64 o, .int .i64 n, .int .i64 pl, .slice a len cap]] w fun e w' => ∃ g, e = .returned (.agg #[.int .i64 op, .int .i64 0, .int .i64 0, .slice (some ⟨g, 0, none⟩) 1 1]) ∧ w.heap.size ≤ g ∧ w'.heap[g]? = some (.cells #[.int .i64 o, .int .i64 n, .int .i64 pl, .slice a len cap] 24 (0, 0)) ∧ Below w.heap.size w w' := by
  have H3 := Lib.hid (heap3 w #[.int .i64 o, .int .i64 n, .int .i64 pl, .slice a len cap] #[.int .i64 op, .int .i64 0, .int .i64 0, .slice (some ⟨w.heap.size + 1 + 1, 0, none⟩) 1 1] #[.int .i64 o, .int .i64 n, .int .i64 pl, .slice a len cap] 24 24 24)
  go_enter Try.func14, Try.ntmps14
  go_wp2_with fail
  obtain ⟨h1, h2, hb⟩ := H3.out
  refine bodyPost_ret (fn := Try.f14) (v := .agg #[.int .i64 op, .int .i64 0, .int .i64 0, .slice (some ⟨w.heap.size + 1 + 1, 0, none⟩) 1 1]) ?_ rfl ⟨_, rfl, by omega, h2, hb⟩
  exact results_cell_row (fn := Try.f14) rfl _ _ _ _ _ _ _ rfl h1 Try.underlying24 rfl (by kernel_rfl)
theorem one_any (w : World) (op : Int) (t : T) (v : Value) (ho : -9223372036854775808 ≤ op ∧ op ≤ 9223372036854775807) (ht : TreeAt w t v) :
    Calls Try.prog 14 #[.int .i64 op, v] w fun e w' => TreeOut (T.un op t) e w' ∧ Below w.heap.size w w' := by
  obtain ⟨o, n, pl, a, len, cap, rfl⟩ := ht.shape
  refine (one_full w op o n pl a len cap).mono ?_
  rintro e w1 ⟨g, rfl, hg, hc, hb⟩
  exact ⟨⟨_, rfl, TreeAt.un ho hc (ht.mono hb)⟩, hb⟩
set_option maxRecDepth 20000 in
theorem two_any (w : World) (op : Int) (s t : T) (u v : Value) (ho : -9223372036854775808 ≤ op ∧ op ≤ 9223372036854775807) (hs : TreeAt w s u) (ht : TreeAt w t v) :
    Calls Try.prog 12 #[.int .i64 op, u, v] w fun e w' => TreeOut (T.bin op s t) e w' ∧ Below w.heap.size w w' := by
  obtain ⟨o, n, pl, a, len, cap, rfl⟩ := hs.shape
  obtain ⟨o', n', pl', a', len', cap', rfl⟩ := ht.shape
  have H4 := Lib.hid (heap4 w #[.int .i64 o, .int .i64 n, .int .i64 pl, .slice a len cap] #[.int .i64 o', .int .i64 n', .int .i64 pl', .slice a' len' cap'] #[.int .i64 op, .int .i64 0, .int .i64 0, .slice (some ⟨w.heap.size + 1 + 1 + 1, 0, none⟩) 2 2] #[.int .i64 o, .int .i64 n, .int .i64 pl, .slice a len cap, .int .i64 o', .int .i64 n', .int .i64 pl', .slice a' len' cap'] 24 24 24 24)
  have HS := Lib.hid hs
  have HT := Lib.hid ht
  clear ht hs
  go_enter Try.func12, Try.ntmps12
  go_wp2_with fail
  obtain ⟨h1, h2, hb⟩ := H4.out
  refine bodyPost_ret (fn := Try.f12) (v := .agg #[.int .i64 op, .int .i64 0, .int .i64 0, .slice (some ⟨w.heap.size + 1 + 1 + 1, 0, none⟩) 2 2]) ?_ rfl ⟨⟨_, rfl, TreeAt.bin ho h2 (HS.out.mono hb) (HT.out.mono hb)⟩, hb⟩
  exact results_cell_row (fn := Try.f12) rfl _ _ _ _ _ _ _ rfl h1 Try.underlying24 rfl (by kernel_rfl)
set_option maxRecDepth 20000 in
theorem not_any (w : World) (t : T) (v : Value) (ht : TreeAt w t v) :
    Calls Try.prog 13 #[v] w fun e w' => TreeOut (T.un 15 t) e w' ∧ Below w.heap.size w w' := by
  obtain ⟨o, n, pl, a, len, cap, rfl⟩ := ht.shape
  have b1 : Below w.heap.size w ((w.alloc (.cells #[.int .i64 o, .int .i64 n, .int .i64 pl, .slice a len cap] 24)).alloc (.cells #[.int .i64 0, .int .i64 0, .int .i64 0, .slice none 0 0] 24)) := ((Below.refl _ _).alloc (Nat.le_refl _) _).alloc (by simp) _
  have hA := one_full ((w.alloc (.cells #[.int .i64 o, .int .i64 n, .int .i64 pl, .slice a len cap] 24)).alloc (.cells #[.int .i64 0, .int .i64 0, .int .i64 0, .slice none 0 0] 24)) 15 o n pl a len cap
  have gz : ((w.alloc (.cells #[.int .i64 o, .int .i64 n, .int .i64 pl, .slice a len cap] 24)).alloc (.cells #[.int .i64 0, .int .i64 0, .int .i64 0, .slice none 0 0] 24)).heap[w.heap.size + 1]? = some (.cells #[.int .i64 0, .int .i64 0, .int .i64 0, .slice none 0 0] 24 (0, 0)) := by
    have := heap_alloc_new (w.alloc (.cells #[.int .i64 o, .int .i64 n, .int .i64 pl, .slice a len cap] 24)) (.cells #[.int .i64 0, .int .i64 0, .int .i64 0, .slice none 0 0] 24)
    rwa [World.size_alloc] at this
  have HT := Lib.hid ht
  clear ht
  go_enter Try.func13, Try.ntmps13
  go_wp2_with fail
  refine hA.mono ?_
  rintro e w1 ⟨g, rfl, hgs, hgc, b2⟩
  have hgne : g ≠ w.heap.size + 1 := by simp at hgs; omega
  have gz1 := (b2.block _ (Array.getElem?_eq_some_iff.1 gz).1).trans gz
  have bt := below_then b1 b2
  clear hA b1 b2 gz
  go_wp2_with (refine store_rec rfl 24 (.tmp 2) (.tmp 4) rfl (w.heap.size + 1) #[.int .i64 15, .int .i64 0, .int .i64 0, .slice (some ⟨g, 0, none⟩) 1 1] rfl rfl 24 _ gz1 (by kernel_rfl) rfl (by simp [Value.oneCell']) ?_; intro w6 g6 z6 o6 b6)
  refine bodyPost_ret (fn := Try.f13) (v := .agg #[.int .i64 15, .int .i64 0, .int .i64 0, .slice (some ⟨g, 0, none⟩) 1 1]) ?_ rfl ⟨⟨_, rfl, TreeAt.un (by decide) ((o6 g hgne).trans hgc) (HT.out.mono (bt.trans (b6.mono (Nat.le_succ _))))⟩, bt.trans (b6.mono (Nat.le_succ _))⟩
  exact results_cell_row (fn := Try.f13) rfl _ _ _ _ _ _ _ rfl g6 Try.underlying24 rfl (by kernel_rfl)
end Go.Proofs.Ytogdfjcgcdbnaaa
