/- The document's Insert of a key that is there, and into a full table (by gen04zz.py). -/
import Derived.Test.YtkklciecdhbleaaTabRJ
import Derived.Test.YtkklciecdhbleaaTabQ
namespace Go.Proofs.Ytkklciecdhbleaa
open Go.RowKit
set_option linter.unusedVariables false

set_option maxHeartbeats 1000000 in
theorem refinsert_old (w : World) (cap : Int) (a : Option Addr) (n c : Nat) (ks : List (List Nat)) (h : RowsK w a n ks) (ya : Option Addr) (yl yc : Nat) (key : List Nat) (hk : BytesAt w ya yl yc key) (hnd : ks.Nodup) (p : Nat) (hp : p < ks.length) (hpk : ks.getD p [] = key) :
    Calls Try.prog 15 #[.agg #[.int .i64 cap, .slice a n c], .slice ya yl yc] w fun e w' => e = .returned (.tuple #[.agg #[.int .i64 cap, .slice a n c], .int .i64 (p : Nat), .bool false, .int .i64 0]) ∧ Below w.heap.size w w' := by
  have b1 : Below w.heap.size w ((w.alloc (.cells #[.int .i64 cap, .slice a n c] 35)).alloc (.cells #[.int .i64 0, .slice none 0 0] 35)) := bel_alloc (bel_alloc (Below.refl _ _) _) _
  have hm : key ∈ ks := hpk ▸ getD_mem hp
  go_enter Try.func15, Try.ntmps15
  go_wp2_with fail
  refine (reffind_le _ cap a n c ks (h.mono b1) ya yl yc key (hk.mono b1)).mono ?_
  rintro e w2 ⟨⟨q, rfl, h1, _⟩, b2⟩
  obtain ⟨hq, hqk⟩ := h1 hm
  obtain rfl : p = q := getD_inj hnd hp hq (by rw [hqk, hpk])
  rw [decide_eq_true hm]
  clear h1 hq hqk hpk hp hnd hm
  have z2 : w.heap.size + 2 ≤ w2.heap.size := by have := b2.size; simpa using this
  have gA : w2.heap[w.heap.size]? = some (.cells #[.int .i64 cap, .slice a n c] 35 (0, 0)) := (b2.block _ (by simp only [World.size_alloc]; omega)).trans ((Below.heap_alloc _ _ _ (by simp)).trans (heap_alloc_new _ _))
  have gR : w2.heap[w.heap.size + 1]? = some (.cells #[.int .i64 0, .slice none 0 0] 35 (0, 0)) := (b2.block _ (by simp only [World.size_alloc]; omega)).trans (by have := heap_alloc_new (w.alloc (.cells #[.int .i64 cap, .slice a n c] 35)) (.cells #[.int .i64 0, .slice none 0 0] 35); rwa [World.size_alloc] at this)
  have qA0 := cell_of_row _ _ 0 _ _ _ gA
  have qA1 := cell_of_row _ _ 1 _ _ _ gA
  have k0 := cell_of_row _ _ 0 _ _ _ gR
  have k1 := cell_of_row _ _ 1 _ _ _ gR
  simp only [List.getElem?_toArray, List.getElem?_cons_zero, List.getElem?_cons_succ] at qA0 qA1 k0 k1
  have f0 := frozen_of_row w2 _ 0 _ _ gR
  have f1 := frozen_of_row w2 _ 1 _ _ gR
  have bt := below_then b1 b2
  clear b1 b2 h hk
  go_wp2_with fail
  have gF := two_row w2 (w.heap.size + 1) (.int .i64 cap) (.slice a n c) gR
  have BF := bt.setCell (p := ⟨w.heap.size + 1, 0, none⟩) (Nat.le_succ _) (.int .i64 cap) |>.setCell (p := ⟨w.heap.size + 1, 1, none⟩) (Nat.le_succ _) (.slice a n c)
  have q0 := cell_of_row _ _ 0 _ _ _ gF
  have q1 := cell_of_row _ _ 1 _ _ _ gF
  simp only [List.getElem?_toArray, List.getElem?_cons_zero, List.getElem?_cons_succ] at q0 q1
  exact bodyPost_ret (v := .tuple #[.agg #[.int .i64 cap, .slice a n c], .int .i64 (p : Nat), .bool false, .int .i64 0]) (by simp [results, Try.results15, go_sem, q0, q1]) rfl ⟨rfl, BF⟩
set_option maxHeartbeats 1000000 in
theorem refinsert_full (w : World) (cap : Int) (a : Option Addr) (n c : Nat) (ks : List (List Nat)) (h : RowsK w a n ks) (ya : Option Addr) (yl yc : Nat) (key : List Nat) (hk : BytesAt w ya yl yc key) (hno : key ∉ ks) (hge : cap ≤ (n : Int)) :
    Calls Try.prog 15 #[.agg #[.int .i64 cap, .slice a n c], .slice ya yl yc] w fun e w' => e = .returned (.tuple #[.agg #[.int .i64 cap, .slice a n c], .int .i64 0, .bool false, .int .i64 7]) ∧ Below w.heap.size w w' := by
  have b1 : Below w.heap.size w ((w.alloc (.cells #[.int .i64 cap, .slice a n c] 35)).alloc (.cells #[.int .i64 0, .slice none 0 0] 35)) := bel_alloc (bel_alloc (Below.refl _ _) _) _
  have d1 : decide (cap ≤ (n : Int)) = true := by simpa using hge
  go_enter Try.func15, Try.ntmps15
  go_wp2_with fail
  refine (reffind_le _ cap a n c ks (h.mono b1) ya yl yc key (hk.mono b1)).mono ?_
  rintro e w2 ⟨⟨q, rfl, h1, _⟩, b2⟩
  rw [decide_eq_false hno]
  clear h1 hno
  have z2 : w.heap.size + 2 ≤ w2.heap.size := by have := b2.size; simpa using this
  have gA : w2.heap[w.heap.size]? = some (.cells #[.int .i64 cap, .slice a n c] 35 (0, 0)) := (b2.block _ (by simp only [World.size_alloc]; omega)).trans ((Below.heap_alloc _ _ _ (by simp)).trans (heap_alloc_new _ _))
  have gR : w2.heap[w.heap.size + 1]? = some (.cells #[.int .i64 0, .slice none 0 0] 35 (0, 0)) := (b2.block _ (by simp only [World.size_alloc]; omega)).trans (by have := heap_alloc_new (w.alloc (.cells #[.int .i64 cap, .slice a n c] 35)) (.cells #[.int .i64 0, .slice none 0 0] 35); rwa [World.size_alloc] at this)
  have qA0 := cell_of_row _ _ 0 _ _ _ gA
  have qA1 := cell_of_row _ _ 1 _ _ _ gA
  have k0 := cell_of_row _ _ 0 _ _ _ gR
  have k1 := cell_of_row _ _ 1 _ _ _ gR
  simp only [List.getElem?_toArray, List.getElem?_cons_zero, List.getElem?_cons_succ] at qA0 qA1 k0 k1
  have f0 := frozen_of_row w2 _ 0 _ _ gR
  have f1 := frozen_of_row w2 _ 1 _ _ gR
  have bt := below_then b1 b2
  clear b1 b2 h hk
  go_wp2_with fail
  have gF := two_row w2 (w.heap.size + 1) (.int .i64 cap) (.slice a n c) gR
  have BF := bt.setCell (p := ⟨w.heap.size + 1, 0, none⟩) (Nat.le_succ _) (.int .i64 cap) |>.setCell (p := ⟨w.heap.size + 1, 1, none⟩) (Nat.le_succ _) (.slice a n c)
  have q0 := cell_of_row _ _ 0 _ _ _ gF
  have q1 := cell_of_row _ _ 1 _ _ _ gF
  simp only [List.getElem?_toArray, List.getElem?_cons_zero, List.getElem?_cons_succ] at q0 q1
  exact bodyPost_ret (v := .tuple #[.agg #[.int .i64 cap, .slice a n c], .int .i64 0, .bool false, .int .i64 7]) (by simp [results, Try.results15, go_sem, q0, q1]) rfl ⟨rfl, BF⟩
end Go.Proofs.Ytkklciecdhbleaa
