/- The plain store: Set, Get as the laws call them (by gen06c.py). -/
import Derived.Test.YtbbdeefnooaacaaFlatB
namespace Go.Proofs.Ytbbdeefnooaacaa
open Go.RowKit
set_option linter.unusedVariables false
set_option linter.unusedSimpArgs false

theorem row_below {w w' : World} {g : Nat} {vs : Array Value} {t : TypeId} {fr : Nat × Nat} (h : w.heap[g]? = some (.cells vs t fr)) (b : Below w.heap.size w w') : w'.heap[g]? = some (.cells vs t fr) := (b.block g (Array.getElem?_eq_some_iff.1 h).1).trans h
theorem row_alloc {w : World} {g : Nat} {vs : Array Value} {t : TypeId} {fr : Nat × Nat} (h : w.heap[g]? = some (.cells vs t fr)) (o : Obj) : (w.alloc o).heap[g]? = some (.cells vs t fr) := (Below.heap_alloc _ _ _ (Array.getElem?_eq_some_iff.1 h).1).trans h

set_option maxRecDepth 20000 in
set_option maxHeartbeats 1000000 in
theorem setF_bad (w : World) (cap : Int) (ka : Option Addr) (n kc : Nat) (sa : Option Addr) (sl sc : Nat) (fa : Option Addr) (fl fc : Nat) (ya : Option Addr) (yl yc : Nat) (f : Int) (hf : f < 0 ∨ 1 < f) :
    Calls Try.prog 11 #[.agg #[.int .i64 cap, .slice ka n kc, .slice sa sl sc, .slice fa fl fc], .slice ya yl yc, .int .i64 f] w fun e w' => e = .returned (.tuple #[.agg #[.int .i64 cap, .slice ka n kc, .slice sa sl sc, .slice fa fl fc], .int .i64 1]) ∧ Below w.heap.size w w' := by
  have b1 : Below w.heap.size w ((((w.alloc (.cells #[.int .i64 cap, .slice ka n kc, .slice sa sl sc, .slice fa fl fc] 31)).alloc (.cells #[.int .i64 f] 3)).alloc (.cells #[.int .i64 0, .slice none 0 0, .slice none 0 0, .slice none 0 0] 31)).alloc (.cells #[.int .i64 cap, .slice ka n kc, .slice sa sl sc, .slice fa fl fc] 31)) := (((((Below.refl _ _).alloc (Nat.le_refl _) _).alloc (by simp) _).alloc (by simp; omega) _).alloc (by simp; omega) _)
  have r3 : ((((w.alloc (.cells #[.int .i64 cap, .slice ka n kc, .slice sa sl sc, .slice fa fl fc] 31)).alloc (.cells #[.int .i64 f] 3)).alloc (.cells #[.int .i64 0, .slice none 0 0, .slice none 0 0, .slice none 0 0] 31)).alloc (.cells #[.int .i64 cap, .slice ka n kc, .slice sa sl sc, .slice fa fl fc] 31)).heap[w.heap.size]? = some (.cells #[.int .i64 cap, .slice ka n kc, .slice sa sl sc, .slice fa fl fc] 31 (0, 0)) := row_alloc (row_alloc (row_alloc (heap_alloc_new _ _) _) _) _
  have r5 : ((((w.alloc (.cells #[.int .i64 cap, .slice ka n kc, .slice sa sl sc, .slice fa fl fc] 31)).alloc (.cells #[.int .i64 f] 3)).alloc (.cells #[.int .i64 0, .slice none 0 0, .slice none 0 0, .slice none 0 0] 31)).alloc (.cells #[.int .i64 cap, .slice ka n kc, .slice sa sl sc, .slice fa fl fc] 31)).heap[w.heap.size + 1]? = some (.cells #[.int .i64 f] 3 (0, 0)) := row_alloc (row_alloc (by have := heap_alloc_new (w.alloc (.cells #[.int .i64 cap, .slice ka n kc, .slice sa sl sc, .slice fa fl fc] 31)) (.cells #[.int .i64 f] 3); rwa [World.size_alloc] at this) _) _
  have r6 : ((((w.alloc (.cells #[.int .i64 cap, .slice ka n kc, .slice sa sl sc, .slice fa fl fc] 31)).alloc (.cells #[.int .i64 f] 3)).alloc (.cells #[.int .i64 0, .slice none 0 0, .slice none 0 0, .slice none 0 0] 31)).alloc (.cells #[.int .i64 cap, .slice ka n kc, .slice sa sl sc, .slice fa fl fc] 31)).heap[w.heap.size + 1 + 1]? = some (.cells #[.int .i64 0, .slice none 0 0, .slice none 0 0, .slice none 0 0] 31 (0, 0)) := row_alloc (by have := heap_alloc_new ((w.alloc (.cells #[.int .i64 cap, .slice ka n kc, .slice sa sl sc, .slice fa fl fc] 31)).alloc (.cells #[.int .i64 f] 3)) (.cells #[.int .i64 0, .slice none 0 0, .slice none 0 0, .slice none 0 0] 31); rwa [World.size_alloc, World.size_alloc] at this) _
  have r8 : ((((w.alloc (.cells #[.int .i64 cap, .slice ka n kc, .slice sa sl sc, .slice fa fl fc] 31)).alloc (.cells #[.int .i64 f] 3)).alloc (.cells #[.int .i64 0, .slice none 0 0, .slice none 0 0, .slice none 0 0] 31)).alloc (.cells #[.int .i64 cap, .slice ka n kc, .slice sa sl sc, .slice fa fl fc] 31)).heap[w.heap.size + 1 + 1 + 1]? = some (.cells #[.int .i64 cap, .slice ka n kc, .slice sa sl sc, .slice fa fl fc] 31 (0, 0)) := by have := heap_alloc_new (((w.alloc (.cells #[.int .i64 cap, .slice ka n kc, .slice sa sl sc, .slice fa fl fc] 31)).alloc (.cells #[.int .i64 f] 3)).alloc (.cells #[.int .i64 0, .slice none 0 0, .slice none 0 0, .slice none 0 0] 31)) (.cells #[.int .i64 cap, .slice ka n kc, .slice sa sl sc, .slice fa fl fc] 31); rwa [World.size_alloc, World.size_alloc, World.size_alloc] at this
  go_enter Try.func11, Try.ntmps11
  go_wp2_with fail
  refine (flagged_bad _ cap ka n kc sa sl sc _ ya yl yc f hf _).mono ?_
  rintro e WX ⟨rfl, b2⟩
  have R6 := row_below r6 b2
  have R8 := row_below r8 b2
  have bt := below_then b1 b2
  clear b1 b2 r3 r5 r6 r8
  obtain ⟨g3, e3⟩ : ∃ g, w.heap.size = g := ⟨_, rfl⟩
  obtain ⟨g5, e5⟩ : ∃ g, w.heap.size + 1 = g := ⟨_, rfl⟩
  obtain ⟨g6, e6⟩ : ∃ g, w.heap.size + 1 + 1 = g := ⟨_, rfl⟩
  obtain ⟨g8, e8⟩ : ∃ g, w.heap.size + 1 + 1 + 1 = g := ⟨_, rfl⟩
  have hg : w.heap.size ≤ g6 ∧ w.heap.size ≤ g8 ∧ g6 ≠ g8 ∧ g3 < g8 ∧ g5 < g8 := by omega
  obtain ⟨hg6, hg8, hg68, hg38, hg58⟩ := hg
  rw [e6] at R6
  rw [e8] at R8
  have k0 := cell_of_row _ _ 0 _ _ _ R6
  have k1 := cell_of_row _ _ 1 _ _ _ R6
  have k2 := cell_of_row _ _ 2 _ _ _ R6
  have k3 := cell_of_row _ _ 3 _ _ _ R6
  simp only [List.getElem?_toArray, List.getElem?_cons_zero, List.getElem?_cons_succ] at k0 k1 k2 k3
  have f0 := frozen_of_row WX _ 0 _ _ R6
  have f1 := frozen_of_row WX _ 1 _ _ R6
  have f2 := frozen_of_row WX _ 2 _ _ R6
  have f3 := frozen_of_row WX _ 3 _ _ R6
  rw [e8, e6, e5, e3]
  clear e3 e5 e6 e8
  go_wp2_with (first | (refine wpList_load_row rfl 31 _ rfl g8 rfl 31 _ _ _ R8 Try.underlying31 rfl (by kernel_rfl) ?_) | fail)
  have gF := four_rowU WX g6 (.int .i64 cap) (.slice ka n kc) (.slice sa sl sc) (.slice fa fl fc) _ _ _ _ _ R6
  have s0 := cell_of_row _ _ 0 _ _ _ gF
  have s1 := cell_of_row _ _ 1 _ _ _ gF
  have s2 := cell_of_row _ _ 2 _ _ _ gF
  have s3 := cell_of_row _ _ 3 _ _ _ gF
  simp only [List.getElem?_toArray, List.getElem?_cons_zero, List.getElem?_cons_succ] at s0 s1 s2 s3
  exact bodyPost_ret (v := .tuple #[.agg #[.int .i64 cap, .slice ka n kc, .slice sa sl sc, .slice fa fl fc], .int .i64 1]) (by simp [results, Try.results11, go_sem, s0, s1, s2, s3]) rfl ⟨rfl, four_below bt hg6 _ _ _ _⟩

set_option maxRecDepth 20000 in
set_option maxHeartbeats 1000000 in
theorem setF_none (w : World) (cap : Int) (ka : Option Addr) (n kc : Nat) (sa : Option Addr) (sl sc : Nat) (fa : Option Addr) (fl fc : Nat) (ya : Option Addr) (yl yc : Nat) (ks : List (List Nat)) (s : List Int) (rs : List (Nat × Nat)) (h : TabR w ka n sa sl ks s rs) (key : List Nat) (hk : BytesAt w ya yl yc key) (f : Nat) (hf : f < 2) (hm : key ∉ ks) :
    Calls Try.prog 11 #[.agg #[.int .i64 cap, .slice ka n kc, .slice sa sl sc, .slice fa fl fc], .slice ya yl yc, .int .i64 (f : Nat)] w fun e w' => e = .returned (.tuple #[.agg #[.int .i64 cap, .slice ka n kc, .slice sa sl sc, .slice fa fl fc], .int .i64 10]) ∧ Below w.heap.size w w' := by
  have b1 : Below w.heap.size w ((((w.alloc (.cells #[.int .i64 cap, .slice ka n kc, .slice sa sl sc, .slice fa fl fc] 31)).alloc (.cells #[.int .i64 (f : Nat)] 3)).alloc (.cells #[.int .i64 0, .slice none 0 0, .slice none 0 0, .slice none 0 0] 31)).alloc (.cells #[.int .i64 cap, .slice ka n kc, .slice sa sl sc, .slice fa fl fc] 31)) := (((((Below.refl _ _).alloc (Nat.le_refl _) _).alloc (by simp) _).alloc (by simp; omega) _).alloc (by simp; omega) _)
  have r3 : ((((w.alloc (.cells #[.int .i64 cap, .slice ka n kc, .slice sa sl sc, .slice fa fl fc] 31)).alloc (.cells #[.int .i64 (f : Nat)] 3)).alloc (.cells #[.int .i64 0, .slice none 0 0, .slice none 0 0, .slice none 0 0] 31)).alloc (.cells #[.int .i64 cap, .slice ka n kc, .slice sa sl sc, .slice fa fl fc] 31)).heap[w.heap.size]? = some (.cells #[.int .i64 cap, .slice ka n kc, .slice sa sl sc, .slice fa fl fc] 31 (0, 0)) := row_alloc (row_alloc (row_alloc (heap_alloc_new _ _) _) _) _
  have r5 : ((((w.alloc (.cells #[.int .i64 cap, .slice ka n kc, .slice sa sl sc, .slice fa fl fc] 31)).alloc (.cells #[.int .i64 (f : Nat)] 3)).alloc (.cells #[.int .i64 0, .slice none 0 0, .slice none 0 0, .slice none 0 0] 31)).alloc (.cells #[.int .i64 cap, .slice ka n kc, .slice sa sl sc, .slice fa fl fc] 31)).heap[w.heap.size + 1]? = some (.cells #[.int .i64 (f : Nat)] 3 (0, 0)) := row_alloc (row_alloc (by have := heap_alloc_new (w.alloc (.cells #[.int .i64 cap, .slice ka n kc, .slice sa sl sc, .slice fa fl fc] 31)) (.cells #[.int .i64 (f : Nat)] 3); rwa [World.size_alloc] at this) _) _
  have r6 : ((((w.alloc (.cells #[.int .i64 cap, .slice ka n kc, .slice sa sl sc, .slice fa fl fc] 31)).alloc (.cells #[.int .i64 (f : Nat)] 3)).alloc (.cells #[.int .i64 0, .slice none 0 0, .slice none 0 0, .slice none 0 0] 31)).alloc (.cells #[.int .i64 cap, .slice ka n kc, .slice sa sl sc, .slice fa fl fc] 31)).heap[w.heap.size + 1 + 1]? = some (.cells #[.int .i64 0, .slice none 0 0, .slice none 0 0, .slice none 0 0] 31 (0, 0)) := row_alloc (by have := heap_alloc_new ((w.alloc (.cells #[.int .i64 cap, .slice ka n kc, .slice sa sl sc, .slice fa fl fc] 31)).alloc (.cells #[.int .i64 (f : Nat)] 3)) (.cells #[.int .i64 0, .slice none 0 0, .slice none 0 0, .slice none 0 0] 31); rwa [World.size_alloc, World.size_alloc] at this) _
  have r8 : ((((w.alloc (.cells #[.int .i64 cap, .slice ka n kc, .slice sa sl sc, .slice fa fl fc] 31)).alloc (.cells #[.int .i64 (f : Nat)] 3)).alloc (.cells #[.int .i64 0, .slice none 0 0, .slice none 0 0, .slice none 0 0] 31)).alloc (.cells #[.int .i64 cap, .slice ka n kc, .slice sa sl sc, .slice fa fl fc] 31)).heap[w.heap.size + 1 + 1 + 1]? = some (.cells #[.int .i64 cap, .slice ka n kc, .slice sa sl sc, .slice fa fl fc] 31 (0, 0)) := by have := heap_alloc_new (((w.alloc (.cells #[.int .i64 cap, .slice ka n kc, .slice sa sl sc, .slice fa fl fc] 31)).alloc (.cells #[.int .i64 (f : Nat)] 3)).alloc (.cells #[.int .i64 0, .slice none 0 0, .slice none 0 0, .slice none 0 0] 31)) (.cells #[.int .i64 cap, .slice ka n kc, .slice sa sl sc, .slice fa fl fc] 31); rwa [World.size_alloc, World.size_alloc, World.size_alloc] at this
  go_enter Try.func11, Try.ntmps11
  go_wp2_with fail
  refine (flagged_none _ cap ka n kc sa sl sc _ ks s rs (h.mono b1) ya yl yc key (hk.mono b1) f hf _ hm).mono ?_
  rintro e WX ⟨rfl, b2⟩
  have R6 := row_below r6 b2
  have R8 := row_below r8 b2
  have bt := below_then b1 b2
  clear b1 b2 r3 r5 r6 r8
  obtain ⟨g3, e3⟩ : ∃ g, w.heap.size = g := ⟨_, rfl⟩
  obtain ⟨g5, e5⟩ : ∃ g, w.heap.size + 1 = g := ⟨_, rfl⟩
  obtain ⟨g6, e6⟩ : ∃ g, w.heap.size + 1 + 1 = g := ⟨_, rfl⟩
  obtain ⟨g8, e8⟩ : ∃ g, w.heap.size + 1 + 1 + 1 = g := ⟨_, rfl⟩
  have hg : w.heap.size ≤ g6 ∧ w.heap.size ≤ g8 ∧ g6 ≠ g8 ∧ g3 < g8 ∧ g5 < g8 := by omega
  obtain ⟨hg6, hg8, hg68, hg38, hg58⟩ := hg
  rw [e6] at R6
  rw [e8] at R8
  have k0 := cell_of_row _ _ 0 _ _ _ R6
  have k1 := cell_of_row _ _ 1 _ _ _ R6
  have k2 := cell_of_row _ _ 2 _ _ _ R6
  have k3 := cell_of_row _ _ 3 _ _ _ R6
  simp only [List.getElem?_toArray, List.getElem?_cons_zero, List.getElem?_cons_succ] at k0 k1 k2 k3
  have f0 := frozen_of_row WX _ 0 _ _ R6
  have f1 := frozen_of_row WX _ 1 _ _ R6
  have f2 := frozen_of_row WX _ 2 _ _ R6
  have f3 := frozen_of_row WX _ 3 _ _ R6
  rw [e8, e6, e5, e3]
  clear e3 e5 e6 e8
  go_wp2_with (first | (refine wpList_load_row rfl 31 _ rfl g8 rfl 31 _ _ _ R8 Try.underlying31 rfl (by kernel_rfl) ?_) | fail)
  have gF := four_rowU WX g6 (.int .i64 cap) (.slice ka n kc) (.slice sa sl sc) (.slice fa fl fc) _ _ _ _ _ R6
  have s0 := cell_of_row _ _ 0 _ _ _ gF
  have s1 := cell_of_row _ _ 1 _ _ _ gF
  have s2 := cell_of_row _ _ 2 _ _ _ gF
  have s3 := cell_of_row _ _ 3 _ _ _ gF
  simp only [List.getElem?_toArray, List.getElem?_cons_zero, List.getElem?_cons_succ] at s0 s1 s2 s3
  exact bodyPost_ret (v := .tuple #[.agg #[.int .i64 cap, .slice ka n kc, .slice sa sl sc, .slice fa fl fc], .int .i64 10]) (by simp [results, Try.results11, go_sem, s0, s1, s2, s3]) rfl ⟨rfl, four_below bt hg6 _ _ _ _⟩

/-- Bytes, behind a store into a record. -/
theorem BytesAt.offrec {w w' : World} {a : Option Addr} {l c : Nat} {y : List Nat} (h : BytesAt w a l c y) {g : Nat} (hno : NoU8 w g) (hs : w'.heap.size = w.heap.size) (ho : ∀ b, b ≠ g → w'.heap[b]? = w.heap[b]?) : BytesAt w' a l c y :=
  h.past (bad := fun b => b = g) (fun b hb => hb ▸ hno) (Nat.le_of_eq hs.symm) fun b _ hb => ho b hb
set_option maxRecDepth 20000 in
set_option maxHeartbeats 1000000 in
theorem setF_ok (w : World) (cap : Int) (ka : Option Addr) (n kc : Nat) (sa : Option Addr) (sl sc : Nat) (fa : Option Addr) (fl fc : Nat) (L : List Nat) (hL : BytesAt w fa fl fc L) (ks : List (List Nat)) (s : List Int) (rs : List (Nat × Nat)) (h : TabR w ka n sa sl ks s rs) (ya : Option Addr) (yl yc : Nat) (key : List Nat) (hk : BytesAt w ya yl yc key) (f : Nat) (hf : f < 2) (hnd : ks.Nodup) (p : Nat) (hp : p < ks.length) (hpk : ks.getD p [] = key) (hp6 : n ≤ 1048576) (hl6 : fl ≤ 1048576) :
    Calls Try.prog 11 #[.agg #[.int .i64 cap, .slice ka n kc, .slice sa sl sc, .slice fa fl fc], .slice ya yl yc, .int .i64 (f : Nat)] w fun e w' => (∃ (a' : Option Addr) (l' c' : Nat) (L' : List Nat), e = .returned (.tuple #[.agg #[.int .i64 cap, .slice ka n kc, .slice sa sl sc, .slice a' l' c'], .int .i64 0]) ∧ BytesAt w' a' l' c' L' ∧ Marked L L' p f) ∧ Below w.heap.size w w' := by
  have b1 : Below w.heap.size w ((((w.alloc (.cells #[.int .i64 cap, .slice ka n kc, .slice sa sl sc, .slice fa fl fc] 31)).alloc (.cells #[.int .i64 (f : Nat)] 3)).alloc (.cells #[.int .i64 0, .slice none 0 0, .slice none 0 0, .slice none 0 0] 31)).alloc (.cells #[.int .i64 cap, .slice ka n kc, .slice sa sl sc, .slice fa fl fc] 31)) := (((((Below.refl _ _).alloc (Nat.le_refl _) _).alloc (by simp) _).alloc (by simp; omega) _).alloc (by simp; omega) _)
  have r3 : ((((w.alloc (.cells #[.int .i64 cap, .slice ka n kc, .slice sa sl sc, .slice fa fl fc] 31)).alloc (.cells #[.int .i64 (f : Nat)] 3)).alloc (.cells #[.int .i64 0, .slice none 0 0, .slice none 0 0, .slice none 0 0] 31)).alloc (.cells #[.int .i64 cap, .slice ka n kc, .slice sa sl sc, .slice fa fl fc] 31)).heap[w.heap.size]? = some (.cells #[.int .i64 cap, .slice ka n kc, .slice sa sl sc, .slice fa fl fc] 31 (0, 0)) := row_alloc (row_alloc (row_alloc (heap_alloc_new _ _) _) _) _
  have r5 : ((((w.alloc (.cells #[.int .i64 cap, .slice ka n kc, .slice sa sl sc, .slice fa fl fc] 31)).alloc (.cells #[.int .i64 (f : Nat)] 3)).alloc (.cells #[.int .i64 0, .slice none 0 0, .slice none 0 0, .slice none 0 0] 31)).alloc (.cells #[.int .i64 cap, .slice ka n kc, .slice sa sl sc, .slice fa fl fc] 31)).heap[w.heap.size + 1]? = some (.cells #[.int .i64 (f : Nat)] 3 (0, 0)) := row_alloc (row_alloc (by have := heap_alloc_new (w.alloc (.cells #[.int .i64 cap, .slice ka n kc, .slice sa sl sc, .slice fa fl fc] 31)) (.cells #[.int .i64 (f : Nat)] 3); rwa [World.size_alloc] at this) _) _
  have r6 : ((((w.alloc (.cells #[.int .i64 cap, .slice ka n kc, .slice sa sl sc, .slice fa fl fc] 31)).alloc (.cells #[.int .i64 (f : Nat)] 3)).alloc (.cells #[.int .i64 0, .slice none 0 0, .slice none 0 0, .slice none 0 0] 31)).alloc (.cells #[.int .i64 cap, .slice ka n kc, .slice sa sl sc, .slice fa fl fc] 31)).heap[w.heap.size + 1 + 1]? = some (.cells #[.int .i64 0, .slice none 0 0, .slice none 0 0, .slice none 0 0] 31 (0, 0)) := row_alloc (by have := heap_alloc_new ((w.alloc (.cells #[.int .i64 cap, .slice ka n kc, .slice sa sl sc, .slice fa fl fc] 31)).alloc (.cells #[.int .i64 (f : Nat)] 3)) (.cells #[.int .i64 0, .slice none 0 0, .slice none 0 0, .slice none 0 0] 31); rwa [World.size_alloc, World.size_alloc] at this) _
  have r8 : ((((w.alloc (.cells #[.int .i64 cap, .slice ka n kc, .slice sa sl sc, .slice fa fl fc] 31)).alloc (.cells #[.int .i64 (f : Nat)] 3)).alloc (.cells #[.int .i64 0, .slice none 0 0, .slice none 0 0, .slice none 0 0] 31)).alloc (.cells #[.int .i64 cap, .slice ka n kc, .slice sa sl sc, .slice fa fl fc] 31)).heap[w.heap.size + 1 + 1 + 1]? = some (.cells #[.int .i64 cap, .slice ka n kc, .slice sa sl sc, .slice fa fl fc] 31 (0, 0)) := by have := heap_alloc_new (((w.alloc (.cells #[.int .i64 cap, .slice ka n kc, .slice sa sl sc, .slice fa fl fc] 31)).alloc (.cells #[.int .i64 (f : Nat)] 3)).alloc (.cells #[.int .i64 0, .slice none 0 0, .slice none 0 0, .slice none 0 0] 31)) (.cells #[.int .i64 cap, .slice ka n kc, .slice sa sl sc, .slice fa fl fc] 31); rwa [World.size_alloc, World.size_alloc, World.size_alloc] at this
  have HF := flaggedSet ((((w.alloc (.cells #[.int .i64 cap, .slice ka n kc, .slice sa sl sc, .slice fa fl fc] 31)).alloc (.cells #[.int .i64 f] 3)).alloc (.cells #[.int .i64 0, .slice none 0 0, .slice none 0 0, .slice none 0 0] 31)).alloc (.cells #[.int .i64 cap, .slice ka n kc, .slice sa sl sc, .slice fa fl fc] 31)) cap ka n kc sa sl sc fa fl fc L (hL.mono b1) ks s rs (h.mono b1) ya yl yc key (hk.mono b1) f hf hnd p hp hpk hp6 hl6 (w.heap.size) (w.heap.size + 1) (w.heap.size + 1 + 1 + 1) (cell_of_row _ _ 3 _ _ _ r3) (Array.getElem?_eq_some_iff.1 r3).1 (cell_of_row _ _ 0 _ _ _ r5) (Array.getElem?_eq_some_iff.1 r5).1 _ _ _ _ r8
  have HF2 := Lib.hid HF
  clear HF hp hpk
  go_enter Try.func11, Try.ntmps11
  go_wp2_with fail
  refine HF2.out.mono ?_
  rintro e WX ⟨rfl, a', l', c', L', W5, b5, hL', hM', hWX⟩
  have R6a := row_below r6 b5
  have R8a := row_below r8 b5
  have bt5 := below_then b1 b5
  clear b1 b5 r3 r5 r6 r8 HF2
  obtain ⟨g3, e3⟩ : ∃ g, w.heap.size = g := ⟨_, rfl⟩
  obtain ⟨g5, e5⟩ : ∃ g, w.heap.size + 1 = g := ⟨_, rfl⟩
  obtain ⟨g6, e6⟩ : ∃ g, w.heap.size + 1 + 1 = g := ⟨_, rfl⟩
  obtain ⟨g8, e8⟩ : ∃ g, w.heap.size + 1 + 1 + 1 = g := ⟨_, rfl⟩
  have hg : w.heap.size ≤ g6 ∧ w.heap.size ≤ g8 ∧ g6 ≠ g8 ∧ g3 < g8 ∧ g5 < g8 := by omega
  obtain ⟨hg6, hg8, hg68, hg38, hg58⟩ := hg
  rw [e6] at R6a
  rw [e8] at R8a hWX
  have R6 : WX.heap[g6]? = some (.cells #[.int .i64 0, .slice none 0 0, .slice none 0 0, .slice none 0 0] 31 (0, 0)) := by
    rw [hWX]
    exact (Below.heap_setCell _ _ _ _ hg68).trans R6a
  have R8 : WX.heap[g8]? = some (.cells #[.int .i64 cap, .slice ka n kc, .slice sa sl sc, .slice a' l' c'] 31 (0, 0)) := by
    rw [hWX]
    exact Joins.block_setCell (i := 3) R8a (.slice a' l' c')
  have hno8 : NoU8 W5 g8 := noU8_rec R8a fun v hv m => by simp at hv; rcases hv with rfl | rfl | rfl | rfl <;> simp
  have hLX : BytesAt WX a' l' c' L' := by
    rw [hWX]
    exact hL'.offrec hno8 (by simp [World.setCell]) (fun b hb => Below.heap_setCell _ _ _ _ hb)
  have bt : Below w.heap.size w WX := by
    rw [hWX]
    exact bt5.setCell (by show w.heap.size ≤ g8; exact hg8) _
  have HMM := Lib.hid hM'
  clear hWX hL' hM' R6a R8a hno8 bt5
  have k0 := cell_of_row _ _ 0 _ _ _ R6
  have k1 := cell_of_row _ _ 1 _ _ _ R6
  have k2 := cell_of_row _ _ 2 _ _ _ R6
  have k3 := cell_of_row _ _ 3 _ _ _ R6
  simp only [List.getElem?_toArray, List.getElem?_cons_zero, List.getElem?_cons_succ] at k0 k1 k2 k3
  have f0 := frozen_of_row WX _ 0 _ _ R6
  have f1 := frozen_of_row WX _ 1 _ _ R6
  have f2 := frozen_of_row WX _ 2 _ _ R6
  have f3 := frozen_of_row WX _ 3 _ _ R6
  rw [e8, e6, e5, e3]
  clear e3 e5 e6 e8
  go_wp2_with (first | (refine wpList_load_row rfl 31 _ rfl g8 rfl 31 _ _ _ R8 Try.underlying31 rfl (by kernel_rfl) ?_) | fail)
  have gF := four_rowU WX g6 (.int .i64 cap) (.slice ka n kc) (.slice sa sl sc) (.slice a' l' c') _ _ _ _ _ R6
  have s0 := cell_of_row _ _ 0 _ _ _ gF
  have s1 := cell_of_row _ _ 1 _ _ _ gF
  have s2 := cell_of_row _ _ 2 _ _ _ gF
  have s3 := cell_of_row _ _ 3 _ _ _ gF
  simp only [List.getElem?_toArray, List.getElem?_cons_zero, List.getElem?_cons_succ] at s0 s1 s2 s3
  have hno6 : NoU8 WX g6 := noU8_rec R6 fun v hv m => by simp at hv; rcases hv with rfl | rfl | rfl | rfl <;> simp
  exact bodyPost_ret (v := .tuple #[.agg #[.int .i64 cap, .slice ka n kc, .slice sa sl sc, .slice a' l' c'], .int .i64 0]) (by simp [results, Try.results11, go_sem, s0, s1, s2, s3]) rfl ⟨⟨a', l', c', L', rfl, hLX.offrec hno6 (four_size _ _ _ _ _ _) (fun b hb => four_other _ _ _ _ _ _ _ hb), HMM.out⟩, four_below bt hg6 _ _ _ _⟩

set_option maxRecDepth 20000 in
set_option maxHeartbeats 1000000 in
theorem getF_bad (w : World) (cap : Int) (ka : Option Addr) (n kc : Nat) (sa : Option Addr) (sl sc : Nat) (fa : Option Addr) (fl fc : Nat) (ya : Option Addr) (yl yc : Nat) (f : Int) (hf : f < 0 ∨ 1 < f) :
    Calls Try.prog 13 #[.agg #[.int .i64 cap, .slice ka n kc, .slice sa sl sc, .slice fa fl fc], .slice ya yl yc, .int .i64 f] w fun e w' => e = .returned (.tuple #[.bool false, .int .i64 1]) ∧ Below w.heap.size w w' := by
  have b1 : Below w.heap.size w (((w.alloc (.cells #[.int .i64 cap, .slice ka n kc, .slice sa sl sc, .slice fa fl fc] 31)).alloc (.cells #[.int .i64 f] 3)).alloc (.cells #[.bool false] 4)) := ((((Below.refl _ _).alloc (Nat.le_refl _) _).alloc (by simp) _).alloc (by simp; omega) _)
  have r3 : (((w.alloc (.cells #[.int .i64 cap, .slice ka n kc, .slice sa sl sc, .slice fa fl fc] 31)).alloc (.cells #[.int .i64 f] 3)).alloc (.cells #[.bool false] 4)).heap[w.heap.size]? = some (.cells #[.int .i64 cap, .slice ka n kc, .slice sa sl sc, .slice fa fl fc] 31 (0, 0)) := row_alloc (row_alloc (heap_alloc_new _ _) _) _
  have r5 : (((w.alloc (.cells #[.int .i64 cap, .slice ka n kc, .slice sa sl sc, .slice fa fl fc] 31)).alloc (.cells #[.int .i64 f] 3)).alloc (.cells #[.bool false] 4)).heap[w.heap.size + 1]? = some (.cells #[.int .i64 f] 3 (0, 0)) := row_alloc (by have := heap_alloc_new (w.alloc (.cells #[.int .i64 cap, .slice ka n kc, .slice sa sl sc, .slice fa fl fc] 31)) (.cells #[.int .i64 f] 3); rwa [World.size_alloc] at this) _
  have r8 : (((w.alloc (.cells #[.int .i64 cap, .slice ka n kc, .slice sa sl sc, .slice fa fl fc] 31)).alloc (.cells #[.int .i64 f] 3)).alloc (.cells #[.bool false] 4)).heap[w.heap.size + 1 + 1]? = some (.cells #[.bool false] 4 (0, 0)) := by have := heap_alloc_new ((w.alloc (.cells #[.int .i64 cap, .slice ka n kc, .slice sa sl sc, .slice fa fl fc] 31)).alloc (.cells #[.int .i64 f] 3)) (.cells #[.bool false] 4); rwa [World.size_alloc, World.size_alloc] at this
  go_enter Try.func13, Try.ntmps13
  go_wp2_with fail
  refine (flagged_bad _ cap ka n kc sa sl sc _ ya yl yc f hf _).mono ?_
  rintro e WX ⟨rfl, b2⟩
  have R8 := row_below r8 b2
  have bt := below_then b1 b2
  have k8 := cell_of_row _ _ 0 _ _ _ R8
  simp only [List.getElem?_toArray, List.getElem?_cons_zero, List.getElem?_cons_succ] at k8
  clear b1 b2 r3 r5 r8 R8
  go_wp2_with fail
  go_ret2
  exact ⟨rfl, bt⟩

set_option maxRecDepth 20000 in
set_option maxHeartbeats 1000000 in
theorem getF_none (w : World) (cap : Int) (ka : Option Addr) (n kc : Nat) (sa : Option Addr) (sl sc : Nat) (fa : Option Addr) (fl fc : Nat) (ya : Option Addr) (yl yc : Nat) (ks : List (List Nat)) (s : List Int) (rs : List (Nat × Nat)) (h : TabR w ka n sa sl ks s rs) (key : List Nat) (hk : BytesAt w ya yl yc key) (f : Nat) (hf : f < 2) (hm : key ∉ ks) :
    Calls Try.prog 13 #[.agg #[.int .i64 cap, .slice ka n kc, .slice sa sl sc, .slice fa fl fc], .slice ya yl yc, .int .i64 (f : Nat)] w fun e w' => e = .returned (.tuple #[.bool false, .int .i64 10]) ∧ Below w.heap.size w w' := by
  have b1 : Below w.heap.size w (((w.alloc (.cells #[.int .i64 cap, .slice ka n kc, .slice sa sl sc, .slice fa fl fc] 31)).alloc (.cells #[.int .i64 (f : Nat)] 3)).alloc (.cells #[.bool false] 4)) := ((((Below.refl _ _).alloc (Nat.le_refl _) _).alloc (by simp) _).alloc (by simp; omega) _)
  have r3 : (((w.alloc (.cells #[.int .i64 cap, .slice ka n kc, .slice sa sl sc, .slice fa fl fc] 31)).alloc (.cells #[.int .i64 (f : Nat)] 3)).alloc (.cells #[.bool false] 4)).heap[w.heap.size]? = some (.cells #[.int .i64 cap, .slice ka n kc, .slice sa sl sc, .slice fa fl fc] 31 (0, 0)) := row_alloc (row_alloc (heap_alloc_new _ _) _) _
  have r5 : (((w.alloc (.cells #[.int .i64 cap, .slice ka n kc, .slice sa sl sc, .slice fa fl fc] 31)).alloc (.cells #[.int .i64 (f : Nat)] 3)).alloc (.cells #[.bool false] 4)).heap[w.heap.size + 1]? = some (.cells #[.int .i64 (f : Nat)] 3 (0, 0)) := row_alloc (by have := heap_alloc_new (w.alloc (.cells #[.int .i64 cap, .slice ka n kc, .slice sa sl sc, .slice fa fl fc] 31)) (.cells #[.int .i64 (f : Nat)] 3); rwa [World.size_alloc] at this) _
  have r8 : (((w.alloc (.cells #[.int .i64 cap, .slice ka n kc, .slice sa sl sc, .slice fa fl fc] 31)).alloc (.cells #[.int .i64 (f : Nat)] 3)).alloc (.cells #[.bool false] 4)).heap[w.heap.size + 1 + 1]? = some (.cells #[.bool false] 4 (0, 0)) := by have := heap_alloc_new ((w.alloc (.cells #[.int .i64 cap, .slice ka n kc, .slice sa sl sc, .slice fa fl fc] 31)).alloc (.cells #[.int .i64 (f : Nat)] 3)) (.cells #[.bool false] 4); rwa [World.size_alloc, World.size_alloc] at this
  go_enter Try.func13, Try.ntmps13
  go_wp2_with fail
  refine (flagged_none _ cap ka n kc sa sl sc _ ks s rs (h.mono b1) ya yl yc key (hk.mono b1) f hf _ hm).mono ?_
  rintro e WX ⟨rfl, b2⟩
  have R8 := row_below r8 b2
  have bt := below_then b1 b2
  have k8 := cell_of_row _ _ 0 _ _ _ R8
  simp only [List.getElem?_toArray, List.getElem?_cons_zero, List.getElem?_cons_succ] at k8
  clear b1 b2 r3 r5 r8 R8
  go_wp2_with fail
  go_ret2
  exact ⟨rfl, bt⟩

set_option maxRecDepth 20000 in
set_option maxHeartbeats 1000000 in
theorem getF_ok (w : World) (cap : Int) (ka : Option Addr) (n kc : Nat) (sa : Option Addr) (sl sc : Nat) (fa : Option Addr) (fl fc : Nat) (L : List Nat) (hL : BytesAt w fa fl fc L) (ks : List (List Nat)) (s : List Int) (rs : List (Nat × Nat)) (h : TabR w ka n sa sl ks s rs) (ya : Option Addr) (yl yc : Nat) (key : List Nat) (hk : BytesAt w ya yl yc key) (f : Nat) (hf : f < 2) (hnd : ks.Nodup) (p : Nat) (hp : p < ks.length) (hpk : ks.getD p [] = key) (hp6 : n ≤ 1048576) :
    Calls Try.prog 13 #[.agg #[.int .i64 cap, .slice ka n kc, .slice sa sl sc, .slice fa fl fc], .slice ya yl yc, .int .i64 (f : Nat)] w fun e w' => e = .returned (.tuple #[.bool (hasB L p f), .int .i64 0]) ∧ Below w.heap.size w w' := by
  have b1 : Below w.heap.size w (((w.alloc (.cells #[.int .i64 cap, .slice ka n kc, .slice sa sl sc, .slice fa fl fc] 31)).alloc (.cells #[.int .i64 (f : Nat)] 3)).alloc (.cells #[.bool false] 4)) := ((((Below.refl _ _).alloc (Nat.le_refl _) _).alloc (by simp) _).alloc (by simp; omega) _)
  have r3 : (((w.alloc (.cells #[.int .i64 cap, .slice ka n kc, .slice sa sl sc, .slice fa fl fc] 31)).alloc (.cells #[.int .i64 (f : Nat)] 3)).alloc (.cells #[.bool false] 4)).heap[w.heap.size]? = some (.cells #[.int .i64 cap, .slice ka n kc, .slice sa sl sc, .slice fa fl fc] 31 (0, 0)) := row_alloc (row_alloc (heap_alloc_new _ _) _) _
  have r5 : (((w.alloc (.cells #[.int .i64 cap, .slice ka n kc, .slice sa sl sc, .slice fa fl fc] 31)).alloc (.cells #[.int .i64 (f : Nat)] 3)).alloc (.cells #[.bool false] 4)).heap[w.heap.size + 1]? = some (.cells #[.int .i64 (f : Nat)] 3 (0, 0)) := row_alloc (by have := heap_alloc_new (w.alloc (.cells #[.int .i64 cap, .slice ka n kc, .slice sa sl sc, .slice fa fl fc] 31)) (.cells #[.int .i64 (f : Nat)] 3); rwa [World.size_alloc] at this) _
  have r8 : (((w.alloc (.cells #[.int .i64 cap, .slice ka n kc, .slice sa sl sc, .slice fa fl fc] 31)).alloc (.cells #[.int .i64 (f : Nat)] 3)).alloc (.cells #[.bool false] 4)).heap[w.heap.size + 1 + 1]? = some (.cells #[.bool false] 4 (0, 0)) := by have := heap_alloc_new ((w.alloc (.cells #[.int .i64 cap, .slice ka n kc, .slice sa sl sc, .slice fa fl fc] 31)).alloc (.cells #[.int .i64 (f : Nat)] 3)) (.cells #[.bool false] 4); rwa [World.size_alloc, World.size_alloc] at this
  have HF := flaggedGet (((w.alloc (.cells #[.int .i64 cap, .slice ka n kc, .slice sa sl sc, .slice fa fl fc] 31)).alloc (.cells #[.int .i64 (f : Nat)] 3)).alloc (.cells #[.bool false] 4)) cap ka n kc sa sl sc fa fl fc L (hL.mono b1) ks s rs (h.mono b1) ya yl yc key (hk.mono b1) f hf hnd p hp hpk hp6 (w.heap.size) (w.heap.size + 1) (w.heap.size + 1 + 1) (cell_of_row _ _ 3 _ _ _ r3) (Array.getElem?_eq_some_iff.1 r3).1 (cell_of_row _ _ 0 _ _ _ r5) (Array.getElem?_eq_some_iff.1 r5).1 _ r8
  have HF2 := Lib.hid HF
  clear HF hp hpk
  obtain ⟨B, hB⟩ : ∃ B, hasB L p f = B := ⟨_, rfl⟩
  rw [hB] at HF2 ⊢
  clear hB
  go_enter Try.func13, Try.ntmps13
  go_wp2_with fail
  refine HF2.out.mono ?_
  rintro e WX ⟨rfl, W5, b5, hWX⟩
  have R8a := row_below r8 b5
  have R8 : WX.heap[w.heap.size + 1 + 1]? = some (.cells #[.bool B] 4 (0, 0)) := by
    rw [hWX]
    exact Joins.block_setCell (i := 0) R8a (.bool B)
  have bt : Below w.heap.size w WX := by
    rw [hWX]
    exact (below_then b1 b5).setCell (by show w.heap.size ≤ w.heap.size + 1 + 1; omega) _
  have k8 := cell_of_row _ _ 0 _ _ _ R8
  simp only [List.getElem?_toArray, List.getElem?_cons_zero, List.getElem?_cons_succ] at k8
  clear hWX b1 b5 r3 r5 r8 R8 R8a HF2
  go_wp2_with fail
  go_ret2
  exact ⟨rfl, bt⟩

end Go.Proofs.Ytbbdeefnooaacaa
