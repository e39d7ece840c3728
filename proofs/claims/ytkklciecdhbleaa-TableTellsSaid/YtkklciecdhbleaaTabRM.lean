/- The document's Insert of a new key: no keys yet, or an empty key (by gen04zy.py). -/
import Derived.Test.YtkklciecdhbleaaTabRL
namespace Go.Proofs.Ytkklciecdhbleaa
open Go.RowKit
set_option linter.unusedVariables false
set_option linter.unusedSimpArgs false
set_option maxHeartbeats 1000000 in
theorem refinsert_new_n (w : World) (cap : Int) (a : Option Addr) (n c : Nat) (ks : List (List Nat)) (h : RowsK w a n ks) (hn0 : n = 0) (yb yo : Nat) (yl yc : Nat) (key : List Nat) (hk : BytesAt w (some ⟨yb, yo, none⟩) yl yc key) (hy0 : 0 < yl) (hno : key ∉ ks) (hlt : (n : Int) < cap) (hn : n ≤ 1048576) (hyl : yl ≤ 1000000) :
    Calls Try.prog 15 #[.agg #[.int .i64 cap, .slice a n c], .slice (some ⟨yb, yo, none⟩) yl yc] w fun e w' => ∃ (g c' : Nat), e = .returned (.tuple #[.agg #[.int .i64 cap, .slice (some ⟨g, 0, none⟩) (n + 1) c'], .int .i64 (n : Nat), .bool true, .int .i64 0]) ∧ RowsK w' (some ⟨g, 0, none⟩) (n + 1) (ks ++ [key]) ∧ Below w.heap.size w w' ∧ w.heap.size ≤ g := by
  have HN0 := Lib.hid hn0
  clear hn0
  have b1 : Below w.heap.size w ((w.alloc (.cells #[.int .i64 cap, .slice a n c] 35)).alloc (.cells #[.int .i64 0, .slice none 0 0] 35)) := bel_alloc (bel_alloc (Below.refl _ _) _) _
  have d1 : decide (cap ≤ (n : Int)) = false := by simp; omega
  go_enter Try.func15, Try.ntmps15
  go_wp2_with fail
  refine (reffind_le _ cap a n c ks (h.mono b1) (some ⟨yb, yo, none⟩) yl yc key (hk.mono b1)).mono ?_
  rintro e w2 ⟨⟨p, rfl, _, _⟩, b2⟩
  rw [decide_eq_false hno]
  have z2 : w.heap.size + 2 ≤ w2.heap.size := by have := b2.size; simpa using this
  have gA : w2.heap[w.heap.size]? = some (.cells #[.int .i64 cap, .slice a n c] 35 (0, 0)) := (b2.block _ (by simp only [World.size_alloc]; omega)).trans ((Below.heap_alloc _ _ _ (by simp)).trans (heap_alloc_new _ _))
  have gR : w2.heap[w.heap.size + 1]? = some (.cells #[.int .i64 0, .slice none 0 0] 35 (0, 0)) := (b2.block _ (by simp only [World.size_alloc]; omega)).trans (by have := heap_alloc_new (w.alloc (.cells #[.int .i64 cap, .slice a n c] 35)) (.cells #[.int .i64 0, .slice none 0 0] 35); rwa [World.size_alloc] at this)
  have qA0 := cell_of_row _ _ 0 _ _ _ gA
  have qA1 := cell_of_row _ _ 1 _ _ _ gA
  simp only [List.getElem?_toArray, List.getElem?_cons_zero, List.getElem?_cons_succ] at qA0 qA1
  have gAl : w.heap.size < w2.heap.size := by omega
  have h2 := (h.mono b1).mono b2
  have k2 := (hk.mono b1).mono b2
  have bt := below_then b1 b2
  have vk : ∀ i, i < n → ∃ x l c, ([] : List Value)[i]? = some (.slice x l c) ∧ BytesAt w2 x l c (ks.getD i []) := fun i hi => by have := HN0.out; omega
  obtain ⟨kv, hkv⟩ : ∃ kv, (key.map fun (n : Nat) => Value.int .u8 (n : Int)) = kv := ⟨_, rfl⟩
  have kvl : kv.length = yl := by rw [← hkv, List.length_map]; exact k2.len_eq
  have hkey : ∀ w' : World, Below w2.heap.size w2 w' → ∀ (j : Nat) (u : Value), kv[j]? = some u → w'.cell? ((⟨yb, yo, none⟩ : Addr).add j) = some u := fun w' hb' j u hj => (k2.mono hb').news _ rfl j u (by rw [hkv]; exact hj)
  have h2l := h2.len
  have gRl : w.heap.size + 1 < w2.heap.size := by omega
  have hAR : w.heap.size ≠ w.heap.size + 1 := by omega
  clear b1 b2 h hk
  go_upto_region 6 with fail
  refine wp_region_noPanic ?_
  refine wp_region_held_drew (S := fun w' => w'.cell? ⟨w.heap.size, 0, none⟩ = some (.int .i64 cap) ∧ w'.cell? ⟨w.heap.size, 1, none⟩ = some (.slice (a) n c)) (by kernel_rfl) ⟨qA0, qA1⟩ (fun hHeld => ?_)
  have BL := bel_drew (Below.refl w2.heap.size w2)
  refine wpAnyH_take (i := 0) (v := ?_) rfl (by kernel_rfl) (by kernel_rfl) (by kernel_rfl) (fun _ _ _ h => h) (Or.inl ⟨by rfl, ?_⟩) (by assumption) ?_
  rotate_left
  · (intro wq hSw; (try dsimp only at hSw); go_simp; try with_reducible rfl)
  try simp only [Act.put, List.setIfInBounds_toArray, List.set_cons_zero, List.set_cons_succ]
  refine wpAnyH_take (i := 1) (v := ?_) rfl (by kernel_rfl) (by kernel_rfl) (by kernel_rfl) (fun _ _ _ h => h) (Or.inl ⟨by rfl, ?_⟩) (by assumption) ?_
  rotate_left
  · (intro wq hSw; (try dsimp only at hSw); go_simp; try with_reducible rfl)
  try simp only [Act.put, List.setIfInBounds_toArray, List.set_cons_zero, List.set_cons_succ]
  refine wpAnyH_take (i := 3) (v := ?_) rfl (by kernel_rfl) (by kernel_rfl) (by kernel_rfl) (fun _ _ _ h => h) (Or.inl ⟨by rfl, ?_⟩) (by assumption) ?_
  rotate_left
  · (intro wq hSw; (try dsimp only at hSw); go_simp; try with_reducible rfl)
  try simp only [Act.put, List.setIfInBounds_toArray, List.set_cons_zero, List.set_cons_succ]
  refine wpAnyH_take (i := 4) (v := ?_) rfl (by kernel_rfl) (by kernel_rfl) (by kernel_rfl) (fun _ _ _ h => h) (Or.inl ⟨by rfl, ?_⟩) (by assumption) ?_
  rotate_left
  · (intro wq hSw; (try dsimp only at hSw); go_simp; try with_reducible rfl)
  try simp only [Act.put, List.setIfInBounds_toArray, List.set_cons_zero, List.set_cons_succ]
  refine wpAnyH_take (i := 7) (v := ?_) rfl (by kernel_rfl) (by kernel_rfl) (by kernel_rfl) (fun _ _ _ h => h) (Or.inl ⟨by rfl, ?_⟩) (by assumption) ?_
  rotate_left
  · (intro wq hSw; (try dsimp only at hSw); go_simp; try with_reducible rfl)
  try simp only [Act.put, List.setIfInBounds_toArray, List.set_cons_zero, List.set_cons_succ]
  refine wpAnyH_take (i := 12) (v := ?_) rfl (by kernel_rfl) (by kernel_rfl) (by kernel_rfl) (fun _ _ _ h => h) (Or.inl ⟨by rfl, ?_⟩) (by assumption) ?_
  rotate_left
  · (intro wq hSw; (try dsimp only at hSw); go_simp; try with_reducible rfl)
  try simp only [Act.put, List.setIfInBounds_toArray, List.set_cons_zero, List.set_cons_succ]
  refine wpAnyH_take (i := 13) (v := ?_) rfl (by kernel_rfl) (by kernel_rfl) (by kernel_rfl) (fun _ _ _ h => h) (Or.inl ⟨by rfl, ?_⟩) (by assumption) ?_
  rotate_left
  · (intro wq hSw; (try dsimp only at hSw); go_simp; try with_reducible rfl)
  try simp only [Act.put, List.setIfInBounds_toArray, List.set_cons_zero, List.set_cons_succ]
  refine wpAnyH_take (i := 14) (v := ?_) rfl (by kernel_rfl) (by kernel_rfl) (by kernel_rfl) (fun _ _ _ h => h) (Or.inl ⟨by rfl, ?_⟩) (by assumption) ?_
  rotate_left
  · (intro wq hSw; (try dsimp only at hSw); go_simp; try with_reducible rfl)
  try simp only [Act.put, List.setIfInBounds_toArray, List.set_cons_zero, List.set_cons_succ]
  refine wpAnyH_ready (rs := [2, 6]) (by kernel_rfl) (by simp) ?_
  refine AllReadyH.cons rfl (fun K hK => ?_) (AllReadyH.cons rfl (fun K hK => ?_) (AllReadyH.nil))
  · skip
    go_simp
    have BL := bel_alloc BL (.cells #[] 23)
    have r0 := (BL.cell (p := ⟨w.heap.size, 0, none⟩) gAl).trans qA0
    have r1 := (BL.cell (p := ⟨w.heap.size, 1, none⟩) gAl).trans qA1
    refine hK.out _ _ ⟨r0, r1⟩ (fun hHeld => ?_)
    clear hK K r0 r1
    try simp only [Act.put, List.setIfInBounds_toArray, List.set_cons_zero, List.set_cons_succ]
    refine wpAnyH_ready (rs := [5, 6]) (by kernel_rfl) (by simp) ?_
    refine AllReadyH.cons rfl (fun K hK => ?_) (AllReadyH.cons rfl (fun K hK => ?_) (AllReadyH.nil))
    · skip
      refine step_append_nil rfl (.tmp 28) (.tmp 30) 22 23 rfl Try.underlying22 (.slice none 0 0) 24 Try.info_row _ _ (by rfl) _ n c (by rfl) HN0.out ?_
      intro v31 hv31
      change K (Act.put _ (some 31) v31) _
      have hg31 : ∃ g, v31 = .slice (some g) 0 0 := ⟨_, hv31⟩
      clear hv31
      obtain ⟨g31, rfl⟩ := hg31
      have r0 := (BL.cell (p := ⟨w.heap.size, 0, none⟩) gAl).trans qA0
      have r1 := (BL.cell (p := ⟨w.heap.size, 1, none⟩) gAl).trans qA1
      refine hK.out _ _ ⟨r0, r1⟩ (fun hHeld => ?_)
      clear hK K r0 r1
      try simp only [Act.put, List.setIfInBounds_toArray, List.set_cons_zero, List.set_cons_succ]
      refine wpAnyH_ready (rs := [6]) (by kernel_rfl) (by simp) ?_
      refine AllReadyH.cons rfl (fun K hK => ?_) (AllReadyH.nil)
      go_simp
      have BL := bel_alloc BL (.cells #[] 5)
      have r0 := (BL.cell (p := ⟨w.heap.size, 0, none⟩) gAl).trans qA0
      have r1 := (BL.cell (p := ⟨w.heap.size, 1, none⟩) gAl).trans qA1
      refine hK.out _ _ ⟨r0, r1⟩ (fun hHeld => ?_)
      clear hK K r0 r1
      try simp only [Act.put, List.setIfInBounds_toArray, List.set_cons_zero, List.set_cons_succ]
      refine wpAnyH_ready (rs := [8]) (by kernel_rfl) (by simp) ?_
      refine AllReadyH.cons rfl (fun K hK => ?_) (AllReadyH.nil)
      refine step_append_fresh rfl (.tmp 32) (.tmp 33) 23 5 rfl Try.underlying23 (.int .u8 0) 1 Try.info_u8 rfl _ (by rfl) _ yl yc hy0 kv (by rfl) kvl (hkey _ BL) (by unfold maxLen; omega) (by omega) ?_
      intro v34 w34 O34 at34 BN
      change K (Act.put _ (some 34) v34) _
      obtain ⟨a34, c34, rfl, _⟩ := own_slice O34
      have BL := below_then BL BN
      have r0 := (BL.cell (p := ⟨w.heap.size, 0, none⟩) gAl).trans qA0
      have r1 := (BL.cell (p := ⟨w.heap.size, 1, none⟩) gAl).trans qA1
      refine hK.out _ _ ⟨r0, r1⟩ (fun hHeld => ?_)
      clear hK K r0 r1
      try simp only [Act.put, List.setIfInBounds_toArray, List.set_cons_zero, List.set_cons_succ]
      refine wpAnyH_ready (rs := [9]) (by kernel_rfl) (by simp) ?_
      refine AllReadyH.cons rfl (fun K hK => ?_) (AllReadyH.nil)
      go_simp
      have C35 := cell_new_at _ (.slice a34 yl c34) 23 BL
      try simp only [World.size_alloc] at C35
      have BL := bel_alloc BL (.cells #[.slice a34 yl c34] 23)
      have O34 := O34.alloc (.cells #[.slice a34 yl c34] 23)
      have r0 := (BL.cell (p := ⟨w.heap.size, 0, none⟩) gAl).trans qA0
      have r1 := (BL.cell (p := ⟨w.heap.size, 1, none⟩) gAl).trans qA1
      refine hK.out _ _ ⟨r0, r1⟩ (fun hHeld => ?_)
      clear hK K r0 r1
      try simp only [Act.put, List.setIfInBounds_toArray, List.set_cons_zero, List.set_cons_succ]
      refine wpAnyH_ready (rs := [10]) (by kernel_rfl) (by simp) ?_
      refine AllReadyH.cons rfl (fun K hK => ?_) (AllReadyH.nil)
      refine step_append_fresh rfl (.tmp 31) (.tmp 35) 22 23 rfl Try.underlying22 (.slice none 0 0) 24 Try.info_row rfl _ (by rfl) _ 1 1 (by decide) [.slice a34 yl c34] (by rfl) rfl (one_cell C35) (by unfold maxLen; omega) (by omega) ?_
      intro v36 w36 O36 at36 BN
      change K (Act.put _ (some 36) v36) _
      have O36 : w36.ownsRow w2.heap.size 23 1 v36 (n + 1) ([] ++ [.slice a34 yl c34]) := by rw [HN0.out]; exact own_low O36 BL.size
      have O34 := O34.bel BN
      have BL := below_then BL BN
      obtain ⟨g36, c36, rfl, hg36, hR⟩ := rows_snoc BL hkv k2 h2l (by omega) vk O34 O36
      have gR := (BL.block _ gRl).trans gR
      have k0 := cell_of_row _ _ 0 _ _ _ gR
      have k1 := cell_of_row _ _ 1 _ _ _ gR
      simp only [List.getElem?_toArray, List.getElem?_cons_zero, List.getElem?_cons_succ] at k0 k1
      have f0 := frozen_of_row w36 _ 0 _ _ gR
      have f1 := frozen_of_row w36 _ 1 _ _ gR
      have r0 := (BL.cell (p := ⟨w.heap.size, 0, none⟩) gAl).trans qA0
      have r1 := (BL.cell (p := ⟨w.heap.size, 1, none⟩) gAl).trans qA1
      refine hK.out _ _ ⟨r0, r1⟩ (fun hHeld => ?_)
      clear hK K
      try simp only [Act.put, List.setIfInBounds_toArray, List.set_cons_zero, List.set_cons_succ]
      refine wpAnyH_take (i := 11) (v := ?_) rfl (by kernel_rfl) (by kernel_rfl) (by kernel_rfl) (fun _ _ _ h => h) (Or.inl ⟨by rfl, ?_⟩) (by assumption) ?_
      rotate_left
      · (intro wq hSw; (try dsimp only at hSw); go_simp; try with_reducible rfl)
      try simp only [Act.put, List.setIfInBounds_toArray, List.set_cons_zero, List.set_cons_succ]
      refine wpAnyH_ready (rs := [15]) (by kernel_rfl) (by simp) ?_
      refine AllReadyH.cons rfl (fun K hK => ?_) (AllReadyH.nil)
      go_simp
      refine hK.out _ _ ⟨two_cell _ _ _ _ hAR r0, two_cell _ _ _ _ hAR r1⟩ (fun hHeld => ?_)
      clear hK K
      try simp only [Act.put, List.setIfInBounds_toArray, List.set_cons_zero, List.set_cons_succ]
      refine wpAnyH_take (i := 16) (v := ?_) rfl (by kernel_rfl) (by kernel_rfl) (by kernel_rfl) (fun _ _ _ h => h) (Or.inl ⟨by rfl, ?_⟩) (by assumption) ?_
      rotate_left
      · (intro wq hSw; (try dsimp only at hSw); go_simp; try with_reducible rfl)
      try simp only [Act.put, List.setIfInBounds_toArray, List.set_cons_zero, List.set_cons_succ]
      refine wpAnyH_take (i := 17) (v := ?_) rfl (by kernel_rfl) (by kernel_rfl) (by kernel_rfl) (fun _ _ _ h => h) (Or.inl ⟨by rfl, ?_⟩) (by assumption) ?_
      rotate_left
      · (intro wq hSw; (try dsimp only at hSw); go_simp; try with_reducible rfl)
      try simp only [Act.put, List.setIfInBounds_toArray, List.set_cons_zero, List.set_cons_succ]
      refine wpAnyH_take (i := 18) (v := ?_) rfl (by kernel_rfl) (by kernel_rfl) (by kernel_rfl) (fun _ _ _ h => h) (Or.inl ⟨by rfl, ?_⟩) (by assumption) ?_
      rotate_left
      · (intro wq hSw; (try dsimp only at hSw); go_simp; try with_reducible rfl)
      try simp only [Act.put, List.setIfInBounds_toArray, List.set_cons_zero, List.set_cons_succ]
      refine wpAnyH_done (by kernel_rfl) ?_ _
      refine NoPanic.normal ?_
      have gF := two_row w36 (w.heap.size + 1) (.int .i64 cap) (.slice (some ⟨g36, 0, none⟩) (n + 1) c36) gR
      have BF := (bt.trans (BL.mono (by omega))).setCell (p := ⟨w.heap.size + 1, 0, none⟩) (Nat.le_succ _) (.int .i64 cap) |>.setCell (p := ⟨w.heap.size + 1, 1, none⟩) (Nat.le_succ _) (.slice (some ⟨g36, 0, none⟩) (n + 1) c36)
      have q0 := cell_of_row _ _ 0 _ _ _ gF
      have q1 := cell_of_row _ _ 1 _ _ _ gF
      simp only [List.getElem?_toArray, List.getElem?_cons_zero, List.getElem?_cons_succ] at q0 q1
      have hRF : RowsK ((w36.setCell ⟨w.heap.size + 1, 0, none⟩ (.int .i64 cap)).setCell ⟨w.heap.size + 1, 1, none⟩ (.slice (some ⟨g36, 0, none⟩) (n + 1) c36)) (some ⟨g36, 0, none⟩) (n + 1) (ks ++ [key]) := hR.recd (by omega) (noU8_rec gR fun v hv m => by simp at hv; rcases hv with rfl | rfl <;> simp) (by simp [World.setCell]) (fun b hb => (Below.heap_setCell _ _ _ _ hb).trans (Below.heap_setCell _ _ _ _ hb))
      try simp only [List.getElem_toArray, List.getElem_cons_succ, List.getElem_cons_zero, Act.put, List.setIfInBounds_toArray, List.set_cons_zero, List.set_cons_succ]
      go_wp2_with fail
      exact bodyPost_ret (v := .tuple #[.agg #[.int .i64 cap, .slice (some ⟨g36, 0, none⟩) (n + 1) c36], .int .i64 (n : Nat), .bool true, .int .i64 0]) (by simp [results, Try.results15, go_sem, q0, q1]) rfl ⟨g36, c36, rfl, hRF, BF, by omega⟩
    · skip
      go_simp
      have BL := bel_alloc BL (.cells #[] 5)
      have r0 := (BL.cell (p := ⟨w.heap.size, 0, none⟩) gAl).trans qA0
      have r1 := (BL.cell (p := ⟨w.heap.size, 1, none⟩) gAl).trans qA1
      refine hK.out _ _ ⟨r0, r1⟩ (fun hHeld => ?_)
      clear hK K r0 r1
      try simp only [Act.put, List.setIfInBounds_toArray, List.set_cons_zero, List.set_cons_succ]
      refine wpAnyH_ready (rs := [5]) (by kernel_rfl) (by simp) ?_
      refine AllReadyH.cons rfl (fun K hK => ?_) (AllReadyH.nil)
      refine step_append_nil rfl (.tmp 28) (.tmp 30) 22 23 rfl Try.underlying22 (.slice none 0 0) 24 Try.info_row _ _ (by rfl) _ n c (by rfl) HN0.out ?_
      intro v31 hv31
      change K (Act.put _ (some 31) v31) _
      have hg31 : ∃ g, v31 = .slice (some g) 0 0 := ⟨_, hv31⟩
      clear hv31
      obtain ⟨g31, rfl⟩ := hg31
      have r0 := (BL.cell (p := ⟨w.heap.size, 0, none⟩) gAl).trans qA0
      have r1 := (BL.cell (p := ⟨w.heap.size, 1, none⟩) gAl).trans qA1
      refine hK.out _ _ ⟨r0, r1⟩ (fun hHeld => ?_)
      clear hK K r0 r1
      try simp only [Act.put, List.setIfInBounds_toArray, List.set_cons_zero, List.set_cons_succ]
      refine wpAnyH_ready (rs := [8]) (by kernel_rfl) (by simp) ?_
      refine AllReadyH.cons rfl (fun K hK => ?_) (AllReadyH.nil)
      refine step_append_fresh rfl (.tmp 32) (.tmp 33) 23 5 rfl Try.underlying23 (.int .u8 0) 1 Try.info_u8 rfl _ (by rfl) _ yl yc hy0 kv (by rfl) kvl (hkey _ BL) (by unfold maxLen; omega) (by omega) ?_
      intro v34 w34 O34 at34 BN
      change K (Act.put _ (some 34) v34) _
      obtain ⟨a34, c34, rfl, _⟩ := own_slice O34
      have BL := below_then BL BN
      have r0 := (BL.cell (p := ⟨w.heap.size, 0, none⟩) gAl).trans qA0
      have r1 := (BL.cell (p := ⟨w.heap.size, 1, none⟩) gAl).trans qA1
      refine hK.out _ _ ⟨r0, r1⟩ (fun hHeld => ?_)
      clear hK K r0 r1
      try simp only [Act.put, List.setIfInBounds_toArray, List.set_cons_zero, List.set_cons_succ]
      refine wpAnyH_ready (rs := [9]) (by kernel_rfl) (by simp) ?_
      refine AllReadyH.cons rfl (fun K hK => ?_) (AllReadyH.nil)
      go_simp
      have C35 := cell_new_at _ (.slice a34 yl c34) 23 BL
      try simp only [World.size_alloc] at C35
      have BL := bel_alloc BL (.cells #[.slice a34 yl c34] 23)
      have O34 := O34.alloc (.cells #[.slice a34 yl c34] 23)
      have r0 := (BL.cell (p := ⟨w.heap.size, 0, none⟩) gAl).trans qA0
      have r1 := (BL.cell (p := ⟨w.heap.size, 1, none⟩) gAl).trans qA1
      refine hK.out _ _ ⟨r0, r1⟩ (fun hHeld => ?_)
      clear hK K r0 r1
      try simp only [Act.put, List.setIfInBounds_toArray, List.set_cons_zero, List.set_cons_succ]
      refine wpAnyH_ready (rs := [10]) (by kernel_rfl) (by simp) ?_
      refine AllReadyH.cons rfl (fun K hK => ?_) (AllReadyH.nil)
      refine step_append_fresh rfl (.tmp 31) (.tmp 35) 22 23 rfl Try.underlying22 (.slice none 0 0) 24 Try.info_row rfl _ (by rfl) _ 1 1 (by decide) [.slice a34 yl c34] (by rfl) rfl (one_cell C35) (by unfold maxLen; omega) (by omega) ?_
      intro v36 w36 O36 at36 BN
      change K (Act.put _ (some 36) v36) _
      have O36 : w36.ownsRow w2.heap.size 23 1 v36 (n + 1) ([] ++ [.slice a34 yl c34]) := by rw [HN0.out]; exact own_low O36 BL.size
      have O34 := O34.bel BN
      have BL := below_then BL BN
      obtain ⟨g36, c36, rfl, hg36, hR⟩ := rows_snoc BL hkv k2 h2l (by omega) vk O34 O36
      have gR := (BL.block _ gRl).trans gR
      have k0 := cell_of_row _ _ 0 _ _ _ gR
      have k1 := cell_of_row _ _ 1 _ _ _ gR
      simp only [List.getElem?_toArray, List.getElem?_cons_zero, List.getElem?_cons_succ] at k0 k1
      have f0 := frozen_of_row w36 _ 0 _ _ gR
      have f1 := frozen_of_row w36 _ 1 _ _ gR
      have r0 := (BL.cell (p := ⟨w.heap.size, 0, none⟩) gAl).trans qA0
      have r1 := (BL.cell (p := ⟨w.heap.size, 1, none⟩) gAl).trans qA1
      refine hK.out _ _ ⟨r0, r1⟩ (fun hHeld => ?_)
      clear hK K
      try simp only [Act.put, List.setIfInBounds_toArray, List.set_cons_zero, List.set_cons_succ]
      refine wpAnyH_take (i := 11) (v := ?_) rfl (by kernel_rfl) (by kernel_rfl) (by kernel_rfl) (fun _ _ _ h => h) (Or.inl ⟨by rfl, ?_⟩) (by assumption) ?_
      rotate_left
      · (intro wq hSw; (try dsimp only at hSw); go_simp; try with_reducible rfl)
      try simp only [Act.put, List.setIfInBounds_toArray, List.set_cons_zero, List.set_cons_succ]
      refine wpAnyH_ready (rs := [15]) (by kernel_rfl) (by simp) ?_
      refine AllReadyH.cons rfl (fun K hK => ?_) (AllReadyH.nil)
      go_simp
      refine hK.out _ _ ⟨two_cell _ _ _ _ hAR r0, two_cell _ _ _ _ hAR r1⟩ (fun hHeld => ?_)
      clear hK K
      try simp only [Act.put, List.setIfInBounds_toArray, List.set_cons_zero, List.set_cons_succ]
      refine wpAnyH_take (i := 16) (v := ?_) rfl (by kernel_rfl) (by kernel_rfl) (by kernel_rfl) (fun _ _ _ h => h) (Or.inl ⟨by rfl, ?_⟩) (by assumption) ?_
      rotate_left
      · (intro wq hSw; (try dsimp only at hSw); go_simp; try with_reducible rfl)
      try simp only [Act.put, List.setIfInBounds_toArray, List.set_cons_zero, List.set_cons_succ]
      refine wpAnyH_take (i := 17) (v := ?_) rfl (by kernel_rfl) (by kernel_rfl) (by kernel_rfl) (fun _ _ _ h => h) (Or.inl ⟨by rfl, ?_⟩) (by assumption) ?_
      rotate_left
      · (intro wq hSw; (try dsimp only at hSw); go_simp; try with_reducible rfl)
      try simp only [Act.put, List.setIfInBounds_toArray, List.set_cons_zero, List.set_cons_succ]
      refine wpAnyH_take (i := 18) (v := ?_) rfl (by kernel_rfl) (by kernel_rfl) (by kernel_rfl) (fun _ _ _ h => h) (Or.inl ⟨by rfl, ?_⟩) (by assumption) ?_
      rotate_left
      · (intro wq hSw; (try dsimp only at hSw); go_simp; try with_reducible rfl)
      try simp only [Act.put, List.setIfInBounds_toArray, List.set_cons_zero, List.set_cons_succ]
      refine wpAnyH_done (by kernel_rfl) ?_ _
      refine NoPanic.normal ?_
      have gF := two_row w36 (w.heap.size + 1) (.int .i64 cap) (.slice (some ⟨g36, 0, none⟩) (n + 1) c36) gR
      have BF := (bt.trans (BL.mono (by omega))).setCell (p := ⟨w.heap.size + 1, 0, none⟩) (Nat.le_succ _) (.int .i64 cap) |>.setCell (p := ⟨w.heap.size + 1, 1, none⟩) (Nat.le_succ _) (.slice (some ⟨g36, 0, none⟩) (n + 1) c36)
      have q0 := cell_of_row _ _ 0 _ _ _ gF
      have q1 := cell_of_row _ _ 1 _ _ _ gF
      simp only [List.getElem?_toArray, List.getElem?_cons_zero, List.getElem?_cons_succ] at q0 q1
      have hRF : RowsK ((w36.setCell ⟨w.heap.size + 1, 0, none⟩ (.int .i64 cap)).setCell ⟨w.heap.size + 1, 1, none⟩ (.slice (some ⟨g36, 0, none⟩) (n + 1) c36)) (some ⟨g36, 0, none⟩) (n + 1) (ks ++ [key]) := hR.recd (by omega) (noU8_rec gR fun v hv m => by simp at hv; rcases hv with rfl | rfl <;> simp) (by simp [World.setCell]) (fun b hb => (Below.heap_setCell _ _ _ _ hb).trans (Below.heap_setCell _ _ _ _ hb))
      try simp only [List.getElem_toArray, List.getElem_cons_succ, List.getElem_cons_zero, Act.put, List.setIfInBounds_toArray, List.set_cons_zero, List.set_cons_succ]
      go_wp2_with fail
      exact bodyPost_ret (v := .tuple #[.agg #[.int .i64 cap, .slice (some ⟨g36, 0, none⟩) (n + 1) c36], .int .i64 (n : Nat), .bool true, .int .i64 0]) (by simp [results, Try.results15, go_sem, q0, q1]) rfl ⟨g36, c36, rfl, hRF, BF, by omega⟩
  · skip
    go_simp
    have BL := bel_alloc BL (.cells #[] 5)
    have r0 := (BL.cell (p := ⟨w.heap.size, 0, none⟩) gAl).trans qA0
    have r1 := (BL.cell (p := ⟨w.heap.size, 1, none⟩) gAl).trans qA1
    refine hK.out _ _ ⟨r0, r1⟩ (fun hHeld => ?_)
    clear hK K r0 r1
    try simp only [Act.put, List.setIfInBounds_toArray, List.set_cons_zero, List.set_cons_succ]
    refine wpAnyH_ready (rs := [2]) (by kernel_rfl) (by simp) ?_
    refine AllReadyH.cons rfl (fun K hK => ?_) (AllReadyH.nil)
    go_simp
    have BL := bel_alloc BL (.cells #[] 23)
    have r0 := (BL.cell (p := ⟨w.heap.size, 0, none⟩) gAl).trans qA0
    have r1 := (BL.cell (p := ⟨w.heap.size, 1, none⟩) gAl).trans qA1
    refine hK.out _ _ ⟨r0, r1⟩ (fun hHeld => ?_)
    clear hK K r0 r1
    try simp only [Act.put, List.setIfInBounds_toArray, List.set_cons_zero, List.set_cons_succ]
    refine wpAnyH_ready (rs := [5]) (by kernel_rfl) (by simp) ?_
    refine AllReadyH.cons rfl (fun K hK => ?_) (AllReadyH.nil)
    refine step_append_nil rfl (.tmp 28) (.tmp 30) 22 23 rfl Try.underlying22 (.slice none 0 0) 24 Try.info_row _ _ (by rfl) _ n c (by rfl) HN0.out ?_
    intro v31 hv31
    change K (Act.put _ (some 31) v31) _
    have hg31 : ∃ g, v31 = .slice (some g) 0 0 := ⟨_, hv31⟩
    clear hv31
    obtain ⟨g31, rfl⟩ := hg31
    have r0 := (BL.cell (p := ⟨w.heap.size, 0, none⟩) gAl).trans qA0
    have r1 := (BL.cell (p := ⟨w.heap.size, 1, none⟩) gAl).trans qA1
    refine hK.out _ _ ⟨r0, r1⟩ (fun hHeld => ?_)
    clear hK K r0 r1
    try simp only [Act.put, List.setIfInBounds_toArray, List.set_cons_zero, List.set_cons_succ]
    refine wpAnyH_ready (rs := [8]) (by kernel_rfl) (by simp) ?_
    refine AllReadyH.cons rfl (fun K hK => ?_) (AllReadyH.nil)
    refine step_append_fresh rfl (.tmp 32) (.tmp 33) 23 5 rfl Try.underlying23 (.int .u8 0) 1 Try.info_u8 rfl _ (by rfl) _ yl yc hy0 kv (by rfl) kvl (hkey _ BL) (by unfold maxLen; omega) (by omega) ?_
    intro v34 w34 O34 at34 BN
    change K (Act.put _ (some 34) v34) _
    obtain ⟨a34, c34, rfl, _⟩ := own_slice O34
    have BL := below_then BL BN
    have r0 := (BL.cell (p := ⟨w.heap.size, 0, none⟩) gAl).trans qA0
    have r1 := (BL.cell (p := ⟨w.heap.size, 1, none⟩) gAl).trans qA1
    refine hK.out _ _ ⟨r0, r1⟩ (fun hHeld => ?_)
    clear hK K r0 r1
    try simp only [Act.put, List.setIfInBounds_toArray, List.set_cons_zero, List.set_cons_succ]
    refine wpAnyH_ready (rs := [9]) (by kernel_rfl) (by simp) ?_
    refine AllReadyH.cons rfl (fun K hK => ?_) (AllReadyH.nil)
    go_simp
    have C35 := cell_new_at _ (.slice a34 yl c34) 23 BL
    try simp only [World.size_alloc] at C35
    have BL := bel_alloc BL (.cells #[.slice a34 yl c34] 23)
    have O34 := O34.alloc (.cells #[.slice a34 yl c34] 23)
    have r0 := (BL.cell (p := ⟨w.heap.size, 0, none⟩) gAl).trans qA0
    have r1 := (BL.cell (p := ⟨w.heap.size, 1, none⟩) gAl).trans qA1
    refine hK.out _ _ ⟨r0, r1⟩ (fun hHeld => ?_)
    clear hK K r0 r1
    try simp only [Act.put, List.setIfInBounds_toArray, List.set_cons_zero, List.set_cons_succ]
    refine wpAnyH_ready (rs := [10]) (by kernel_rfl) (by simp) ?_
    refine AllReadyH.cons rfl (fun K hK => ?_) (AllReadyH.nil)
    refine step_append_fresh rfl (.tmp 31) (.tmp 35) 22 23 rfl Try.underlying22 (.slice none 0 0) 24 Try.info_row rfl _ (by rfl) _ 1 1 (by decide) [.slice a34 yl c34] (by rfl) rfl (one_cell C35) (by unfold maxLen; omega) (by omega) ?_
    intro v36 w36 O36 at36 BN
    change K (Act.put _ (some 36) v36) _
    have O36 : w36.ownsRow w2.heap.size 23 1 v36 (n + 1) ([] ++ [.slice a34 yl c34]) := by rw [HN0.out]; exact own_low O36 BL.size
    have O34 := O34.bel BN
    have BL := below_then BL BN
    obtain ⟨g36, c36, rfl, hg36, hR⟩ := rows_snoc BL hkv k2 h2l (by omega) vk O34 O36
    have gR := (BL.block _ gRl).trans gR
    have k0 := cell_of_row _ _ 0 _ _ _ gR
    have k1 := cell_of_row _ _ 1 _ _ _ gR
    simp only [List.getElem?_toArray, List.getElem?_cons_zero, List.getElem?_cons_succ] at k0 k1
    have f0 := frozen_of_row w36 _ 0 _ _ gR
    have f1 := frozen_of_row w36 _ 1 _ _ gR
    have r0 := (BL.cell (p := ⟨w.heap.size, 0, none⟩) gAl).trans qA0
    have r1 := (BL.cell (p := ⟨w.heap.size, 1, none⟩) gAl).trans qA1
    refine hK.out _ _ ⟨r0, r1⟩ (fun hHeld => ?_)
    clear hK K
    try simp only [Act.put, List.setIfInBounds_toArray, List.set_cons_zero, List.set_cons_succ]
    refine wpAnyH_take (i := 11) (v := ?_) rfl (by kernel_rfl) (by kernel_rfl) (by kernel_rfl) (fun _ _ _ h => h) (Or.inl ⟨by rfl, ?_⟩) (by assumption) ?_
    rotate_left
    · (intro wq hSw; (try dsimp only at hSw); go_simp; try with_reducible rfl)
    try simp only [Act.put, List.setIfInBounds_toArray, List.set_cons_zero, List.set_cons_succ]
    refine wpAnyH_ready (rs := [15]) (by kernel_rfl) (by simp) ?_
    refine AllReadyH.cons rfl (fun K hK => ?_) (AllReadyH.nil)
    go_simp
    refine hK.out _ _ ⟨two_cell _ _ _ _ hAR r0, two_cell _ _ _ _ hAR r1⟩ (fun hHeld => ?_)
    clear hK K
    try simp only [Act.put, List.setIfInBounds_toArray, List.set_cons_zero, List.set_cons_succ]
    refine wpAnyH_take (i := 16) (v := ?_) rfl (by kernel_rfl) (by kernel_rfl) (by kernel_rfl) (fun _ _ _ h => h) (Or.inl ⟨by rfl, ?_⟩) (by assumption) ?_
    rotate_left
    · (intro wq hSw; (try dsimp only at hSw); go_simp; try with_reducible rfl)
    try simp only [Act.put, List.setIfInBounds_toArray, List.set_cons_zero, List.set_cons_succ]
    refine wpAnyH_take (i := 17) (v := ?_) rfl (by kernel_rfl) (by kernel_rfl) (by kernel_rfl) (fun _ _ _ h => h) (Or.inl ⟨by rfl, ?_⟩) (by assumption) ?_
    rotate_left
    · (intro wq hSw; (try dsimp only at hSw); go_simp; try with_reducible rfl)
    try simp only [Act.put, List.setIfInBounds_toArray, List.set_cons_zero, List.set_cons_succ]
    refine wpAnyH_take (i := 18) (v := ?_) rfl (by kernel_rfl) (by kernel_rfl) (by kernel_rfl) (fun _ _ _ h => h) (Or.inl ⟨by rfl, ?_⟩) (by assumption) ?_
    rotate_left
    · (intro wq hSw; (try dsimp only at hSw); go_simp; try with_reducible rfl)
    try simp only [Act.put, List.setIfInBounds_toArray, List.set_cons_zero, List.set_cons_succ]
    refine wpAnyH_done (by kernel_rfl) ?_ _
    refine NoPanic.normal ?_
    have gF := two_row w36 (w.heap.size + 1) (.int .i64 cap) (.slice (some ⟨g36, 0, none⟩) (n + 1) c36) gR
    have BF := (bt.trans (BL.mono (by omega))).setCell (p := ⟨w.heap.size + 1, 0, none⟩) (Nat.le_succ _) (.int .i64 cap) |>.setCell (p := ⟨w.heap.size + 1, 1, none⟩) (Nat.le_succ _) (.slice (some ⟨g36, 0, none⟩) (n + 1) c36)
    have q0 := cell_of_row _ _ 0 _ _ _ gF
    have q1 := cell_of_row _ _ 1 _ _ _ gF
    simp only [List.getElem?_toArray, List.getElem?_cons_zero, List.getElem?_cons_succ] at q0 q1
    have hRF : RowsK ((w36.setCell ⟨w.heap.size + 1, 0, none⟩ (.int .i64 cap)).setCell ⟨w.heap.size + 1, 1, none⟩ (.slice (some ⟨g36, 0, none⟩) (n + 1) c36)) (some ⟨g36, 0, none⟩) (n + 1) (ks ++ [key]) := hR.recd (by omega) (noU8_rec gR fun v hv m => by simp at hv; rcases hv with rfl | rfl <;> simp) (by simp [World.setCell]) (fun b hb => (Below.heap_setCell _ _ _ _ hb).trans (Below.heap_setCell _ _ _ _ hb))
    try simp only [List.getElem_toArray, List.getElem_cons_succ, List.getElem_cons_zero, Act.put, List.setIfInBounds_toArray, List.set_cons_zero, List.set_cons_succ]
    go_wp2_with fail
    exact bodyPost_ret (v := .tuple #[.agg #[.int .i64 cap, .slice (some ⟨g36, 0, none⟩) (n + 1) c36], .int .i64 (n : Nat), .bool true, .int .i64 0]) (by simp [results, Try.results15, go_sem, q0, q1]) rfl ⟨g36, c36, rfl, hRF, BF, by omega⟩
set_option maxHeartbeats 1000000 in
theorem refinsert_new_y (w : World) (cap : Int) (b off : Nat) (n c : Nat) (ks : List (List Nat)) (h : RowsK w (some ⟨b, off, none⟩) n ks) (hn0 : 0 < n) (ya : Option Addr) (yl yc : Nat) (key : List Nat) (hk : BytesAt w ya yl yc key) (hy0 : yl = 0) (hno : key ∉ ks) (hlt : (n : Int) < cap) (hn : n ≤ 1048576) (hyl : yl ≤ 1000000) :
    Calls Try.prog 15 #[.agg #[.int .i64 cap, .slice (some ⟨b, off, none⟩) n c], .slice ya yl yc] w fun e w' => ∃ (g c' : Nat), e = .returned (.tuple #[.agg #[.int .i64 cap, .slice (some ⟨g, 0, none⟩) (n + 1) c'], .int .i64 (n : Nat), .bool true, .int .i64 0]) ∧ RowsK w' (some ⟨g, 0, none⟩) (n + 1) (ks ++ [key]) ∧ Below w.heap.size w w' ∧ w.heap.size ≤ g := by
  have HY0 := Lib.hid hy0
  clear hy0
  have b1 : Below w.heap.size w ((w.alloc (.cells #[.int .i64 cap, .slice (some ⟨b, off, none⟩) n c] 35)).alloc (.cells #[.int .i64 0, .slice none 0 0] 35)) := bel_alloc (bel_alloc (Below.refl _ _) _) _
  have d1 : decide (cap ≤ (n : Int)) = false := by simp; omega
  go_enter Try.func15, Try.ntmps15
  go_wp2_with fail
  refine (reffind_le _ cap (some ⟨b, off, none⟩) n c ks (h.mono b1) ya yl yc key (hk.mono b1)).mono ?_
  rintro e w2 ⟨⟨p, rfl, _, _⟩, b2⟩
  rw [decide_eq_false hno]
  have z2 : w.heap.size + 2 ≤ w2.heap.size := by have := b2.size; simpa using this
  have gA : w2.heap[w.heap.size]? = some (.cells #[.int .i64 cap, .slice (some ⟨b, off, none⟩) n c] 35 (0, 0)) := (b2.block _ (by simp only [World.size_alloc]; omega)).trans ((Below.heap_alloc _ _ _ (by simp)).trans (heap_alloc_new _ _))
  have gR : w2.heap[w.heap.size + 1]? = some (.cells #[.int .i64 0, .slice none 0 0] 35 (0, 0)) := (b2.block _ (by simp only [World.size_alloc]; omega)).trans (by have := heap_alloc_new (w.alloc (.cells #[.int .i64 cap, .slice (some ⟨b, off, none⟩) n c] 35)) (.cells #[.int .i64 0, .slice none 0 0] 35); rwa [World.size_alloc] at this)
  have qA0 := cell_of_row _ _ 0 _ _ _ gA
  have qA1 := cell_of_row _ _ 1 _ _ _ gA
  simp only [List.getElem?_toArray, List.getElem?_cons_zero, List.getElem?_cons_succ] at qA0 qA1
  have gAl : w.heap.size < w2.heap.size := by omega
  have h2 := (h.mono b1).mono b2
  have k2 := (hk.mono b1).mono b2
  have bt := below_then b1 b2
  obtain ⟨vals, vl, vc, v1, vk, hb⟩ := h2.vals hn0
  have hsrc : ∀ w' : World, Below w2.heap.size w2 w' → ∀ (j : Nat) (u : Value), vals[j]? = some u → w'.cell? ((⟨b, off, none⟩ : Addr).add j) = some u := fun w' hb' j u hj => by
    have := vc j u hj
    rw [Addr.add_lit] at this ⊢
    exact (hb'.cell (p := ⟨b, off + j, none⟩) hb).trans this
  have HK0 := Lib.hid (show key = [] from List.eq_nil_of_length_eq_zero (k2.len_eq.trans HY0.out))
  have h2l := h2.len
  have gRl : w.heap.size + 1 < w2.heap.size := by omega
  have hAR : w.heap.size ≠ w.heap.size + 1 := by omega
  clear b1 b2 h hk
  go_upto_region 6 with fail
  refine wp_region_noPanic ?_
  refine wp_region_held_drew (S := fun w' => w'.cell? ⟨w.heap.size, 0, none⟩ = some (.int .i64 cap) ∧ w'.cell? ⟨w.heap.size, 1, none⟩ = some (.slice (some ⟨b, off, none⟩) n c)) (by kernel_rfl) ⟨qA0, qA1⟩ (fun hHeld => ?_)
  have BL := bel_drew (Below.refl w2.heap.size w2)
  refine wpAnyH_take (i := 0) (v := ?_) rfl (by kernel_rfl) (by kernel_rfl) (by kernel_rfl) (fun _ _ _ h => h) (Or.inl ⟨by rfl, ?_⟩) (by assumption) ?_
  rotate_left
  · (intro wq hSw; (try dsimp only at hSw); go_simp; try with_reducible rfl)
  try simp only [Act.put, List.setIfInBounds_toArray, List.set_cons_zero, List.set_cons_succ]
  refine wpAnyH_take (i := 1) (v := ?_) rfl (by kernel_rfl) (by kernel_rfl) (by kernel_rfl) (fun _ _ _ h => h) (Or.inl ⟨by rfl, ?_⟩) (by assumption) ?_
  rotate_left
  · (intro wq hSw; (try dsimp only at hSw); go_simp; try with_reducible rfl)
  try simp only [Act.put, List.setIfInBounds_toArray, List.set_cons_zero, List.set_cons_succ]
  refine wpAnyH_take (i := 3) (v := ?_) rfl (by kernel_rfl) (by kernel_rfl) (by kernel_rfl) (fun _ _ _ h => h) (Or.inl ⟨by rfl, ?_⟩) (by assumption) ?_
  rotate_left
  · (intro wq hSw; (try dsimp only at hSw); go_simp; try with_reducible rfl)
  try simp only [Act.put, List.setIfInBounds_toArray, List.set_cons_zero, List.set_cons_succ]
  refine wpAnyH_take (i := 4) (v := ?_) rfl (by kernel_rfl) (by kernel_rfl) (by kernel_rfl) (fun _ _ _ h => h) (Or.inl ⟨by rfl, ?_⟩) (by assumption) ?_
  rotate_left
  · (intro wq hSw; (try dsimp only at hSw); go_simp; try with_reducible rfl)
  try simp only [Act.put, List.setIfInBounds_toArray, List.set_cons_zero, List.set_cons_succ]
  refine wpAnyH_take (i := 7) (v := ?_) rfl (by kernel_rfl) (by kernel_rfl) (by kernel_rfl) (fun _ _ _ h => h) (Or.inl ⟨by rfl, ?_⟩) (by assumption) ?_
  rotate_left
  · (intro wq hSw; (try dsimp only at hSw); go_simp; try with_reducible rfl)
  try simp only [Act.put, List.setIfInBounds_toArray, List.set_cons_zero, List.set_cons_succ]
  refine wpAnyH_take (i := 12) (v := ?_) rfl (by kernel_rfl) (by kernel_rfl) (by kernel_rfl) (fun _ _ _ h => h) (Or.inl ⟨by rfl, ?_⟩) (by assumption) ?_
  rotate_left
  · (intro wq hSw; (try dsimp only at hSw); go_simp; try with_reducible rfl)
  try simp only [Act.put, List.setIfInBounds_toArray, List.set_cons_zero, List.set_cons_succ]
  refine wpAnyH_take (i := 13) (v := ?_) rfl (by kernel_rfl) (by kernel_rfl) (by kernel_rfl) (fun _ _ _ h => h) (Or.inl ⟨by rfl, ?_⟩) (by assumption) ?_
  rotate_left
  · (intro wq hSw; (try dsimp only at hSw); go_simp; try with_reducible rfl)
  try simp only [Act.put, List.setIfInBounds_toArray, List.set_cons_zero, List.set_cons_succ]
  refine wpAnyH_take (i := 14) (v := ?_) rfl (by kernel_rfl) (by kernel_rfl) (by kernel_rfl) (fun _ _ _ h => h) (Or.inl ⟨by rfl, ?_⟩) (by assumption) ?_
  rotate_left
  · (intro wq hSw; (try dsimp only at hSw); go_simp; try with_reducible rfl)
  try simp only [Act.put, List.setIfInBounds_toArray, List.set_cons_zero, List.set_cons_succ]
  refine wpAnyH_ready (rs := [2, 6]) (by kernel_rfl) (by simp) ?_
  refine AllReadyH.cons rfl (fun K hK => ?_) (AllReadyH.cons rfl (fun K hK => ?_) (AllReadyH.nil))
  · skip
    go_simp
    have BL := bel_alloc BL (.cells #[] 23)
    have r0 := (BL.cell (p := ⟨w.heap.size, 0, none⟩) gAl).trans qA0
    have r1 := (BL.cell (p := ⟨w.heap.size, 1, none⟩) gAl).trans qA1
    refine hK.out _ _ ⟨r0, r1⟩ (fun hHeld => ?_)
    clear hK K r0 r1
    try simp only [Act.put, List.setIfInBounds_toArray, List.set_cons_zero, List.set_cons_succ]
    refine wpAnyH_ready (rs := [5, 6]) (by kernel_rfl) (by simp) ?_
    refine AllReadyH.cons rfl (fun K hK => ?_) (AllReadyH.cons rfl (fun K hK => ?_) (AllReadyH.nil))
    · skip
      refine step_append_fresh rfl (.tmp 28) (.tmp 30) 22 23 rfl Try.underlying22 (.slice none 0 0) 24 Try.info_row rfl _ (by rfl) _ n c hn0 vals (by rfl) vl (hsrc _ BL) (by unfold maxLen; omega) (by omega) ?_
      intro v31 w31 O31 at31 BN
      change K (Act.put _ (some 31) v31) _
      have O31 := own_low O31 BL.size
      have BL := below_then BL BN
      have r0 := (BL.cell (p := ⟨w.heap.size, 0, none⟩) gAl).trans qA0
      have r1 := (BL.cell (p := ⟨w.heap.size, 1, none⟩) gAl).trans qA1
      refine hK.out _ _ ⟨r0, r1⟩ (fun hHeld => ?_)
      clear hK K r0 r1
      try simp only [Act.put, List.setIfInBounds_toArray, List.set_cons_zero, List.set_cons_succ]
      refine wpAnyH_ready (rs := [6]) (by kernel_rfl) (by simp) ?_
      refine AllReadyH.cons rfl (fun K hK => ?_) (AllReadyH.nil)
      go_simp
      have BL := bel_alloc BL (.cells #[] 5)
      have O31 := O31.alloc (.cells #[] 5)
      have r0 := (BL.cell (p := ⟨w.heap.size, 0, none⟩) gAl).trans qA0
      have r1 := (BL.cell (p := ⟨w.heap.size, 1, none⟩) gAl).trans qA1
      refine hK.out _ _ ⟨r0, r1⟩ (fun hHeld => ?_)
      clear hK K r0 r1
      try simp only [Act.put, List.setIfInBounds_toArray, List.set_cons_zero, List.set_cons_succ]
      refine wpAnyH_ready (rs := [8]) (by kernel_rfl) (by simp) ?_
      refine AllReadyH.cons rfl (fun K hK => ?_) (AllReadyH.nil)
      refine step_append_nil rfl (.tmp 32) (.tmp 33) 23 5 rfl Try.underlying23 (.int .u8 0) 1 Try.info_u8 _ _ (by rfl) _ yl yc (by rfl) HY0.out ?_
      intro v34 hv34
      change K (Act.put _ (some 34) v34) _
      have hg34 : ∃ g, v34 = .slice (some g) 0 0 := ⟨_, hv34⟩
      clear hv34
      obtain ⟨g34, rfl⟩ := hg34
      have r0 := (BL.cell (p := ⟨w.heap.size, 0, none⟩) gAl).trans qA0
      have r1 := (BL.cell (p := ⟨w.heap.size, 1, none⟩) gAl).trans qA1
      refine hK.out _ _ ⟨r0, r1⟩ (fun hHeld => ?_)
      clear hK K r0 r1
      try simp only [Act.put, List.setIfInBounds_toArray, List.set_cons_zero, List.set_cons_succ]
      refine wpAnyH_ready (rs := [9]) (by kernel_rfl) (by simp) ?_
      refine AllReadyH.cons rfl (fun K hK => ?_) (AllReadyH.nil)
      go_simp
      have C35 := cell_new_at _ (.slice (some g34) 0 0) 23 BL
      try simp only [World.size_alloc] at C35
      have BL := bel_alloc BL (.cells #[.slice (some g34) 0 0] 23)
      have O31 := O31.alloc (.cells #[.slice (some g34) 0 0] 23)
      have r0 := (BL.cell (p := ⟨w.heap.size, 0, none⟩) gAl).trans qA0
      have r1 := (BL.cell (p := ⟨w.heap.size, 1, none⟩) gAl).trans qA1
      refine hK.out _ _ ⟨r0, r1⟩ (fun hHeld => ?_)
      clear hK K r0 r1
      try simp only [Act.put, List.setIfInBounds_toArray, List.set_cons_zero, List.set_cons_succ]
      refine wpAnyH_ready (rs := [10]) (by kernel_rfl) (by simp) ?_
      refine AllReadyH.cons rfl (fun K hK => ?_) (AllReadyH.nil)
      refine step_append_own rfl (.tmp 31) (.tmp 35) 22 23 rfl Try.underlying22 (.slice none 0 0) 24 Try.info_row rfl w2.heap.size v31 n vals (by rfl) O31 _ 1 1 [.slice (some g34) 0 0] (by rfl) rfl (one_cell C35) (fun u hu => by rw [List.mem_singleton.1 hu]; rfl) (by unfold maxLen; omega) (by omega) BL.size ?_
      intro v36 w36 O36 G36
      change K (Act.put _ (some 36) v36) _
      have BL := BL.grown G36 BL.size (fun k hk => (O31.lt k hk).1)
      obtain ⟨g36, c36, rfl, hg36, hR⟩ := rows_snoc0 BL (.of_nil HK0.out) h2l (by omega) vk O36
      have gR := (BL.block _ gRl).trans gR
      have k0 := cell_of_row _ _ 0 _ _ _ gR
      have k1 := cell_of_row _ _ 1 _ _ _ gR
      simp only [List.getElem?_toArray, List.getElem?_cons_zero, List.getElem?_cons_succ] at k0 k1
      have f0 := frozen_of_row w36 _ 0 _ _ gR
      have f1 := frozen_of_row w36 _ 1 _ _ gR
      have r0 := (BL.cell (p := ⟨w.heap.size, 0, none⟩) gAl).trans qA0
      have r1 := (BL.cell (p := ⟨w.heap.size, 1, none⟩) gAl).trans qA1
      refine hK.out _ _ ⟨r0, r1⟩ (fun hHeld => ?_)
      clear hK K
      try simp only [Act.put, List.setIfInBounds_toArray, List.set_cons_zero, List.set_cons_succ]
      refine wpAnyH_take (i := 11) (v := ?_) rfl (by kernel_rfl) (by kernel_rfl) (by kernel_rfl) (fun _ _ _ h => h) (Or.inl ⟨by rfl, ?_⟩) (by assumption) ?_
      rotate_left
      · (intro wq hSw; (try dsimp only at hSw); go_simp; try with_reducible rfl)
      try simp only [Act.put, List.setIfInBounds_toArray, List.set_cons_zero, List.set_cons_succ]
      refine wpAnyH_ready (rs := [15]) (by kernel_rfl) (by simp) ?_
      refine AllReadyH.cons rfl (fun K hK => ?_) (AllReadyH.nil)
      go_simp
      refine hK.out _ _ ⟨two_cell _ _ _ _ hAR r0, two_cell _ _ _ _ hAR r1⟩ (fun hHeld => ?_)
      clear hK K
      try simp only [Act.put, List.setIfInBounds_toArray, List.set_cons_zero, List.set_cons_succ]
      refine wpAnyH_take (i := 16) (v := ?_) rfl (by kernel_rfl) (by kernel_rfl) (by kernel_rfl) (fun _ _ _ h => h) (Or.inl ⟨by rfl, ?_⟩) (by assumption) ?_
      rotate_left
      · (intro wq hSw; (try dsimp only at hSw); go_simp; try with_reducible rfl)
      try simp only [Act.put, List.setIfInBounds_toArray, List.set_cons_zero, List.set_cons_succ]
      refine wpAnyH_take (i := 17) (v := ?_) rfl (by kernel_rfl) (by kernel_rfl) (by kernel_rfl) (fun _ _ _ h => h) (Or.inl ⟨by rfl, ?_⟩) (by assumption) ?_
      rotate_left
      · (intro wq hSw; (try dsimp only at hSw); go_simp; try with_reducible rfl)
      try simp only [Act.put, List.setIfInBounds_toArray, List.set_cons_zero, List.set_cons_succ]
      refine wpAnyH_take (i := 18) (v := ?_) rfl (by kernel_rfl) (by kernel_rfl) (by kernel_rfl) (fun _ _ _ h => h) (Or.inl ⟨by rfl, ?_⟩) (by assumption) ?_
      rotate_left
      · (intro wq hSw; (try dsimp only at hSw); go_simp; try with_reducible rfl)
      try simp only [Act.put, List.setIfInBounds_toArray, List.set_cons_zero, List.set_cons_succ]
      refine wpAnyH_done (by kernel_rfl) ?_ _
      refine NoPanic.normal ?_
      have gF := two_row w36 (w.heap.size + 1) (.int .i64 cap) (.slice (some ⟨g36, 0, none⟩) (n + 1) c36) gR
      have BF := (bt.trans (BL.mono (by omega))).setCell (p := ⟨w.heap.size + 1, 0, none⟩) (Nat.le_succ _) (.int .i64 cap) |>.setCell (p := ⟨w.heap.size + 1, 1, none⟩) (Nat.le_succ _) (.slice (some ⟨g36, 0, none⟩) (n + 1) c36)
      have q0 := cell_of_row _ _ 0 _ _ _ gF
      have q1 := cell_of_row _ _ 1 _ _ _ gF
      simp only [List.getElem?_toArray, List.getElem?_cons_zero, List.getElem?_cons_succ] at q0 q1
      have hRF : RowsK ((w36.setCell ⟨w.heap.size + 1, 0, none⟩ (.int .i64 cap)).setCell ⟨w.heap.size + 1, 1, none⟩ (.slice (some ⟨g36, 0, none⟩) (n + 1) c36)) (some ⟨g36, 0, none⟩) (n + 1) (ks ++ [key]) := hR.recd (by omega) (noU8_rec gR fun v hv m => by simp at hv; rcases hv with rfl | rfl <;> simp) (by simp [World.setCell]) (fun b hb => (Below.heap_setCell _ _ _ _ hb).trans (Below.heap_setCell _ _ _ _ hb))
      try simp only [List.getElem_toArray, List.getElem_cons_succ, List.getElem_cons_zero, Act.put, List.setIfInBounds_toArray, List.set_cons_zero, List.set_cons_succ]
      go_wp2_with fail
      exact bodyPost_ret (v := .tuple #[.agg #[.int .i64 cap, .slice (some ⟨g36, 0, none⟩) (n + 1) c36], .int .i64 (n : Nat), .bool true, .int .i64 0]) (by simp [results, Try.results15, go_sem, q0, q1]) rfl ⟨g36, c36, rfl, hRF, BF, by omega⟩
    · skip
      go_simp
      have BL := bel_alloc BL (.cells #[] 5)
      have r0 := (BL.cell (p := ⟨w.heap.size, 0, none⟩) gAl).trans qA0
      have r1 := (BL.cell (p := ⟨w.heap.size, 1, none⟩) gAl).trans qA1
      refine hK.out _ _ ⟨r0, r1⟩ (fun hHeld => ?_)
      clear hK K r0 r1
      try simp only [Act.put, List.setIfInBounds_toArray, List.set_cons_zero, List.set_cons_succ]
      refine wpAnyH_ready (rs := [5]) (by kernel_rfl) (by simp) ?_
      refine AllReadyH.cons rfl (fun K hK => ?_) (AllReadyH.nil)
      refine step_append_fresh rfl (.tmp 28) (.tmp 30) 22 23 rfl Try.underlying22 (.slice none 0 0) 24 Try.info_row rfl _ (by rfl) _ n c hn0 vals (by rfl) vl (hsrc _ BL) (by unfold maxLen; omega) (by omega) ?_
      intro v31 w31 O31 at31 BN
      change K (Act.put _ (some 31) v31) _
      have O31 := own_low O31 BL.size
      have BL := below_then BL BN
      have r0 := (BL.cell (p := ⟨w.heap.size, 0, none⟩) gAl).trans qA0
      have r1 := (BL.cell (p := ⟨w.heap.size, 1, none⟩) gAl).trans qA1
      refine hK.out _ _ ⟨r0, r1⟩ (fun hHeld => ?_)
      clear hK K r0 r1
      try simp only [Act.put, List.setIfInBounds_toArray, List.set_cons_zero, List.set_cons_succ]
      refine wpAnyH_ready (rs := [8]) (by kernel_rfl) (by simp) ?_
      refine AllReadyH.cons rfl (fun K hK => ?_) (AllReadyH.nil)
      refine step_append_nil rfl (.tmp 32) (.tmp 33) 23 5 rfl Try.underlying23 (.int .u8 0) 1 Try.info_u8 _ _ (by rfl) _ yl yc (by rfl) HY0.out ?_
      intro v34 hv34
      change K (Act.put _ (some 34) v34) _
      have hg34 : ∃ g, v34 = .slice (some g) 0 0 := ⟨_, hv34⟩
      clear hv34
      obtain ⟨g34, rfl⟩ := hg34
      have r0 := (BL.cell (p := ⟨w.heap.size, 0, none⟩) gAl).trans qA0
      have r1 := (BL.cell (p := ⟨w.heap.size, 1, none⟩) gAl).trans qA1
      refine hK.out _ _ ⟨r0, r1⟩ (fun hHeld => ?_)
      clear hK K r0 r1
      try simp only [Act.put, List.setIfInBounds_toArray, List.set_cons_zero, List.set_cons_succ]
      refine wpAnyH_ready (rs := [9]) (by kernel_rfl) (by simp) ?_
      refine AllReadyH.cons rfl (fun K hK => ?_) (AllReadyH.nil)
      go_simp
      have C35 := cell_new_at _ (.slice (some g34) 0 0) 23 BL
      try simp only [World.size_alloc] at C35
      have BL := bel_alloc BL (.cells #[.slice (some g34) 0 0] 23)
      have O31 := O31.alloc (.cells #[.slice (some g34) 0 0] 23)
      have r0 := (BL.cell (p := ⟨w.heap.size, 0, none⟩) gAl).trans qA0
      have r1 := (BL.cell (p := ⟨w.heap.size, 1, none⟩) gAl).trans qA1
      refine hK.out _ _ ⟨r0, r1⟩ (fun hHeld => ?_)
      clear hK K r0 r1
      try simp only [Act.put, List.setIfInBounds_toArray, List.set_cons_zero, List.set_cons_succ]
      refine wpAnyH_ready (rs := [10]) (by kernel_rfl) (by simp) ?_
      refine AllReadyH.cons rfl (fun K hK => ?_) (AllReadyH.nil)
      refine step_append_own rfl (.tmp 31) (.tmp 35) 22 23 rfl Try.underlying22 (.slice none 0 0) 24 Try.info_row rfl w2.heap.size v31 n vals (by rfl) O31 _ 1 1 [.slice (some g34) 0 0] (by rfl) rfl (one_cell C35) (fun u hu => by rw [List.mem_singleton.1 hu]; rfl) (by unfold maxLen; omega) (by omega) BL.size ?_
      intro v36 w36 O36 G36
      change K (Act.put _ (some 36) v36) _
      have BL := BL.grown G36 BL.size (fun k hk => (O31.lt k hk).1)
      obtain ⟨g36, c36, rfl, hg36, hR⟩ := rows_snoc0 BL (.of_nil HK0.out) h2l (by omega) vk O36
      have gR := (BL.block _ gRl).trans gR
      have k0 := cell_of_row _ _ 0 _ _ _ gR
      have k1 := cell_of_row _ _ 1 _ _ _ gR
      simp only [List.getElem?_toArray, List.getElem?_cons_zero, List.getElem?_cons_succ] at k0 k1
      have f0 := frozen_of_row w36 _ 0 _ _ gR
      have f1 := frozen_of_row w36 _ 1 _ _ gR
      have r0 := (BL.cell (p := ⟨w.heap.size, 0, none⟩) gAl).trans qA0
      have r1 := (BL.cell (p := ⟨w.heap.size, 1, none⟩) gAl).trans qA1
      refine hK.out _ _ ⟨r0, r1⟩ (fun hHeld => ?_)
      clear hK K
      try simp only [Act.put, List.setIfInBounds_toArray, List.set_cons_zero, List.set_cons_succ]
      refine wpAnyH_take (i := 11) (v := ?_) rfl (by kernel_rfl) (by kernel_rfl) (by kernel_rfl) (fun _ _ _ h => h) (Or.inl ⟨by rfl, ?_⟩) (by assumption) ?_
      rotate_left
      · (intro wq hSw; (try dsimp only at hSw); go_simp; try with_reducible rfl)
      try simp only [Act.put, List.setIfInBounds_toArray, List.set_cons_zero, List.set_cons_succ]
      refine wpAnyH_ready (rs := [15]) (by kernel_rfl) (by simp) ?_
      refine AllReadyH.cons rfl (fun K hK => ?_) (AllReadyH.nil)
      go_simp
      refine hK.out _ _ ⟨two_cell _ _ _ _ hAR r0, two_cell _ _ _ _ hAR r1⟩ (fun hHeld => ?_)
      clear hK K
      try simp only [Act.put, List.setIfInBounds_toArray, List.set_cons_zero, List.set_cons_succ]
      refine wpAnyH_take (i := 16) (v := ?_) rfl (by kernel_rfl) (by kernel_rfl) (by kernel_rfl) (fun _ _ _ h => h) (Or.inl ⟨by rfl, ?_⟩) (by assumption) ?_
      rotate_left
      · (intro wq hSw; (try dsimp only at hSw); go_simp; try with_reducible rfl)
      try simp only [Act.put, List.setIfInBounds_toArray, List.set_cons_zero, List.set_cons_succ]
      refine wpAnyH_take (i := 17) (v := ?_) rfl (by kernel_rfl) (by kernel_rfl) (by kernel_rfl) (fun _ _ _ h => h) (Or.inl ⟨by rfl, ?_⟩) (by assumption) ?_
      rotate_left
      · (intro wq hSw; (try dsimp only at hSw); go_simp; try with_reducible rfl)
      try simp only [Act.put, List.setIfInBounds_toArray, List.set_cons_zero, List.set_cons_succ]
      refine wpAnyH_take (i := 18) (v := ?_) rfl (by kernel_rfl) (by kernel_rfl) (by kernel_rfl) (fun _ _ _ h => h) (Or.inl ⟨by rfl, ?_⟩) (by assumption) ?_
      rotate_left
      · (intro wq hSw; (try dsimp only at hSw); go_simp; try with_reducible rfl)
      try simp only [Act.put, List.setIfInBounds_toArray, List.set_cons_zero, List.set_cons_succ]
      refine wpAnyH_done (by kernel_rfl) ?_ _
      refine NoPanic.normal ?_
      have gF := two_row w36 (w.heap.size + 1) (.int .i64 cap) (.slice (some ⟨g36, 0, none⟩) (n + 1) c36) gR
      have BF := (bt.trans (BL.mono (by omega))).setCell (p := ⟨w.heap.size + 1, 0, none⟩) (Nat.le_succ _) (.int .i64 cap) |>.setCell (p := ⟨w.heap.size + 1, 1, none⟩) (Nat.le_succ _) (.slice (some ⟨g36, 0, none⟩) (n + 1) c36)
      have q0 := cell_of_row _ _ 0 _ _ _ gF
      have q1 := cell_of_row _ _ 1 _ _ _ gF
      simp only [List.getElem?_toArray, List.getElem?_cons_zero, List.getElem?_cons_succ] at q0 q1
      have hRF : RowsK ((w36.setCell ⟨w.heap.size + 1, 0, none⟩ (.int .i64 cap)).setCell ⟨w.heap.size + 1, 1, none⟩ (.slice (some ⟨g36, 0, none⟩) (n + 1) c36)) (some ⟨g36, 0, none⟩) (n + 1) (ks ++ [key]) := hR.recd (by omega) (noU8_rec gR fun v hv m => by simp at hv; rcases hv with rfl | rfl <;> simp) (by simp [World.setCell]) (fun b hb => (Below.heap_setCell _ _ _ _ hb).trans (Below.heap_setCell _ _ _ _ hb))
      try simp only [List.getElem_toArray, List.getElem_cons_succ, List.getElem_cons_zero, Act.put, List.setIfInBounds_toArray, List.set_cons_zero, List.set_cons_succ]
      go_wp2_with fail
      exact bodyPost_ret (v := .tuple #[.agg #[.int .i64 cap, .slice (some ⟨g36, 0, none⟩) (n + 1) c36], .int .i64 (n : Nat), .bool true, .int .i64 0]) (by simp [results, Try.results15, go_sem, q0, q1]) rfl ⟨g36, c36, rfl, hRF, BF, by omega⟩
  · skip
    go_simp
    have BL := bel_alloc BL (.cells #[] 5)
    have r0 := (BL.cell (p := ⟨w.heap.size, 0, none⟩) gAl).trans qA0
    have r1 := (BL.cell (p := ⟨w.heap.size, 1, none⟩) gAl).trans qA1
    refine hK.out _ _ ⟨r0, r1⟩ (fun hHeld => ?_)
    clear hK K r0 r1
    try simp only [Act.put, List.setIfInBounds_toArray, List.set_cons_zero, List.set_cons_succ]
    refine wpAnyH_ready (rs := [2]) (by kernel_rfl) (by simp) ?_
    refine AllReadyH.cons rfl (fun K hK => ?_) (AllReadyH.nil)
    go_simp
    have BL := bel_alloc BL (.cells #[] 23)
    have r0 := (BL.cell (p := ⟨w.heap.size, 0, none⟩) gAl).trans qA0
    have r1 := (BL.cell (p := ⟨w.heap.size, 1, none⟩) gAl).trans qA1
    refine hK.out _ _ ⟨r0, r1⟩ (fun hHeld => ?_)
    clear hK K r0 r1
    try simp only [Act.put, List.setIfInBounds_toArray, List.set_cons_zero, List.set_cons_succ]
    refine wpAnyH_ready (rs := [5]) (by kernel_rfl) (by simp) ?_
    refine AllReadyH.cons rfl (fun K hK => ?_) (AllReadyH.nil)
    refine step_append_fresh rfl (.tmp 28) (.tmp 30) 22 23 rfl Try.underlying22 (.slice none 0 0) 24 Try.info_row rfl _ (by rfl) _ n c hn0 vals (by rfl) vl (hsrc _ BL) (by unfold maxLen; omega) (by omega) ?_
    intro v31 w31 O31 at31 BN
    change K (Act.put _ (some 31) v31) _
    have O31 := own_low O31 BL.size
    have BL := below_then BL BN
    have r0 := (BL.cell (p := ⟨w.heap.size, 0, none⟩) gAl).trans qA0
    have r1 := (BL.cell (p := ⟨w.heap.size, 1, none⟩) gAl).trans qA1
    refine hK.out _ _ ⟨r0, r1⟩ (fun hHeld => ?_)
    clear hK K r0 r1
    try simp only [Act.put, List.setIfInBounds_toArray, List.set_cons_zero, List.set_cons_succ]
    refine wpAnyH_ready (rs := [8]) (by kernel_rfl) (by simp) ?_
    refine AllReadyH.cons rfl (fun K hK => ?_) (AllReadyH.nil)
    refine step_append_nil rfl (.tmp 32) (.tmp 33) 23 5 rfl Try.underlying23 (.int .u8 0) 1 Try.info_u8 _ _ (by rfl) _ yl yc (by rfl) HY0.out ?_
    intro v34 hv34
    change K (Act.put _ (some 34) v34) _
    have hg34 : ∃ g, v34 = .slice (some g) 0 0 := ⟨_, hv34⟩
    clear hv34
    obtain ⟨g34, rfl⟩ := hg34
    have r0 := (BL.cell (p := ⟨w.heap.size, 0, none⟩) gAl).trans qA0
    have r1 := (BL.cell (p := ⟨w.heap.size, 1, none⟩) gAl).trans qA1
    refine hK.out _ _ ⟨r0, r1⟩ (fun hHeld => ?_)
    clear hK K r0 r1
    try simp only [Act.put, List.setIfInBounds_toArray, List.set_cons_zero, List.set_cons_succ]
    refine wpAnyH_ready (rs := [9]) (by kernel_rfl) (by simp) ?_
    refine AllReadyH.cons rfl (fun K hK => ?_) (AllReadyH.nil)
    go_simp
    have C35 := cell_new_at _ (.slice (some g34) 0 0) 23 BL
    try simp only [World.size_alloc] at C35
    have BL := bel_alloc BL (.cells #[.slice (some g34) 0 0] 23)
    have O31 := O31.alloc (.cells #[.slice (some g34) 0 0] 23)
    have r0 := (BL.cell (p := ⟨w.heap.size, 0, none⟩) gAl).trans qA0
    have r1 := (BL.cell (p := ⟨w.heap.size, 1, none⟩) gAl).trans qA1
    refine hK.out _ _ ⟨r0, r1⟩ (fun hHeld => ?_)
    clear hK K r0 r1
    try simp only [Act.put, List.setIfInBounds_toArray, List.set_cons_zero, List.set_cons_succ]
    refine wpAnyH_ready (rs := [10]) (by kernel_rfl) (by simp) ?_
    refine AllReadyH.cons rfl (fun K hK => ?_) (AllReadyH.nil)
    refine step_append_own rfl (.tmp 31) (.tmp 35) 22 23 rfl Try.underlying22 (.slice none 0 0) 24 Try.info_row rfl w2.heap.size v31 n vals (by rfl) O31 _ 1 1 [.slice (some g34) 0 0] (by rfl) rfl (one_cell C35) (fun u hu => by rw [List.mem_singleton.1 hu]; rfl) (by unfold maxLen; omega) (by omega) BL.size ?_
    intro v36 w36 O36 G36
    change K (Act.put _ (some 36) v36) _
    have BL := BL.grown G36 BL.size (fun k hk => (O31.lt k hk).1)
    obtain ⟨g36, c36, rfl, hg36, hR⟩ := rows_snoc0 BL (.of_nil HK0.out) h2l (by omega) vk O36
    have gR := (BL.block _ gRl).trans gR
    have k0 := cell_of_row _ _ 0 _ _ _ gR
    have k1 := cell_of_row _ _ 1 _ _ _ gR
    simp only [List.getElem?_toArray, List.getElem?_cons_zero, List.getElem?_cons_succ] at k0 k1
    have f0 := frozen_of_row w36 _ 0 _ _ gR
    have f1 := frozen_of_row w36 _ 1 _ _ gR
    have r0 := (BL.cell (p := ⟨w.heap.size, 0, none⟩) gAl).trans qA0
    have r1 := (BL.cell (p := ⟨w.heap.size, 1, none⟩) gAl).trans qA1
    refine hK.out _ _ ⟨r0, r1⟩ (fun hHeld => ?_)
    clear hK K
    try simp only [Act.put, List.setIfInBounds_toArray, List.set_cons_zero, List.set_cons_succ]
    refine wpAnyH_take (i := 11) (v := ?_) rfl (by kernel_rfl) (by kernel_rfl) (by kernel_rfl) (fun _ _ _ h => h) (Or.inl ⟨by rfl, ?_⟩) (by assumption) ?_
    rotate_left
    · (intro wq hSw; (try dsimp only at hSw); go_simp; try with_reducible rfl)
    try simp only [Act.put, List.setIfInBounds_toArray, List.set_cons_zero, List.set_cons_succ]
    refine wpAnyH_ready (rs := [15]) (by kernel_rfl) (by simp) ?_
    refine AllReadyH.cons rfl (fun K hK => ?_) (AllReadyH.nil)
    go_simp
    refine hK.out _ _ ⟨two_cell _ _ _ _ hAR r0, two_cell _ _ _ _ hAR r1⟩ (fun hHeld => ?_)
    clear hK K
    try simp only [Act.put, List.setIfInBounds_toArray, List.set_cons_zero, List.set_cons_succ]
    refine wpAnyH_take (i := 16) (v := ?_) rfl (by kernel_rfl) (by kernel_rfl) (by kernel_rfl) (fun _ _ _ h => h) (Or.inl ⟨by rfl, ?_⟩) (by assumption) ?_
    rotate_left
    · (intro wq hSw; (try dsimp only at hSw); go_simp; try with_reducible rfl)
    try simp only [Act.put, List.setIfInBounds_toArray, List.set_cons_zero, List.set_cons_succ]
    refine wpAnyH_take (i := 17) (v := ?_) rfl (by kernel_rfl) (by kernel_rfl) (by kernel_rfl) (fun _ _ _ h => h) (Or.inl ⟨by rfl, ?_⟩) (by assumption) ?_
    rotate_left
    · (intro wq hSw; (try dsimp only at hSw); go_simp; try with_reducible rfl)
    try simp only [Act.put, List.setIfInBounds_toArray, List.set_cons_zero, List.set_cons_succ]
    refine wpAnyH_take (i := 18) (v := ?_) rfl (by kernel_rfl) (by kernel_rfl) (by kernel_rfl) (fun _ _ _ h => h) (Or.inl ⟨by rfl, ?_⟩) (by assumption) ?_
    rotate_left
    · (intro wq hSw; (try dsimp only at hSw); go_simp; try with_reducible rfl)
    try simp only [Act.put, List.setIfInBounds_toArray, List.set_cons_zero, List.set_cons_succ]
    refine wpAnyH_done (by kernel_rfl) ?_ _
    refine NoPanic.normal ?_
    have gF := two_row w36 (w.heap.size + 1) (.int .i64 cap) (.slice (some ⟨g36, 0, none⟩) (n + 1) c36) gR
    have BF := (bt.trans (BL.mono (by omega))).setCell (p := ⟨w.heap.size + 1, 0, none⟩) (Nat.le_succ _) (.int .i64 cap) |>.setCell (p := ⟨w.heap.size + 1, 1, none⟩) (Nat.le_succ _) (.slice (some ⟨g36, 0, none⟩) (n + 1) c36)
    have q0 := cell_of_row _ _ 0 _ _ _ gF
    have q1 := cell_of_row _ _ 1 _ _ _ gF
    simp only [List.getElem?_toArray, List.getElem?_cons_zero, List.getElem?_cons_succ] at q0 q1
    have hRF : RowsK ((w36.setCell ⟨w.heap.size + 1, 0, none⟩ (.int .i64 cap)).setCell ⟨w.heap.size + 1, 1, none⟩ (.slice (some ⟨g36, 0, none⟩) (n + 1) c36)) (some ⟨g36, 0, none⟩) (n + 1) (ks ++ [key]) := hR.recd (by omega) (noU8_rec gR fun v hv m => by simp at hv; rcases hv with rfl | rfl <;> simp) (by simp [World.setCell]) (fun b hb => (Below.heap_setCell _ _ _ _ hb).trans (Below.heap_setCell _ _ _ _ hb))
    try simp only [List.getElem_toArray, List.getElem_cons_succ, List.getElem_cons_zero, Act.put, List.setIfInBounds_toArray, List.set_cons_zero, List.set_cons_succ]
    go_wp2_with fail
    exact bodyPost_ret (v := .tuple #[.agg #[.int .i64 cap, .slice (some ⟨g36, 0, none⟩) (n + 1) c36], .int .i64 (n : Nat), .bool true, .int .i64 0]) (by simp [results, Try.results15, go_sem, q0, q1]) rfl ⟨g36, c36, rfl, hRF, BF, by omega⟩
set_option maxHeartbeats 1000000 in
theorem refinsert_new_n_y (w : World) (cap : Int) (a : Option Addr) (n c : Nat) (ks : List (List Nat)) (h : RowsK w a n ks) (hn0 : n = 0) (ya : Option Addr) (yl yc : Nat) (key : List Nat) (hk : BytesAt w ya yl yc key) (hy0 : yl = 0) (hno : key ∉ ks) (hlt : (n : Int) < cap) (hn : n ≤ 1048576) (hyl : yl ≤ 1000000) :
    Calls Try.prog 15 #[.agg #[.int .i64 cap, .slice a n c], .slice ya yl yc] w fun e w' => ∃ (g c' : Nat), e = .returned (.tuple #[.agg #[.int .i64 cap, .slice (some ⟨g, 0, none⟩) (n + 1) c'], .int .i64 (n : Nat), .bool true, .int .i64 0]) ∧ RowsK w' (some ⟨g, 0, none⟩) (n + 1) (ks ++ [key]) ∧ Below w.heap.size w w' ∧ w.heap.size ≤ g := by
  have HN0 := Lib.hid hn0
  clear hn0
  have HY0 := Lib.hid hy0
  clear hy0
  have b1 : Below w.heap.size w ((w.alloc (.cells #[.int .i64 cap, .slice a n c] 35)).alloc (.cells #[.int .i64 0, .slice none 0 0] 35)) := bel_alloc (bel_alloc (Below.refl _ _) _) _
  have d1 : decide (cap ≤ (n : Int)) = false := by simp; omega
  go_enter Try.func15, Try.ntmps15
  go_wp2_with fail
  refine (reffind_le _ cap a n c ks (h.mono b1) ya yl yc key (hk.mono b1)).mono ?_
  rintro e w2 ⟨⟨p, rfl, _, _⟩, b2⟩
  rw [decide_eq_false hno]
  have z2 : w.heap.size + 2 ≤ w2.heap.size := by have := b2.size; simpa using this
  have gA : w2.heap[w.heap.size]? = some (.cells #[.int .i64 cap, .slice a n c] 35 (0, 0)) := (b2.block _ (by simp only [World.size_alloc]; omega)).trans ((Below.heap_alloc _ _ _ (by simp)).trans (heap_alloc_new _ _))
  have gR : w2.heap[w.heap.size + 1]? = some (.cells #[.int .i64 0, .slice none 0 0] 35 (0, 0)) := (b2.block _ (by simp only [World.size_alloc]; omega)).trans (by have := heap_alloc_new (w.alloc (.cells #[.int .i64 cap, .slice a n c] 35)) (.cells #[.int .i64 0, .slice none 0 0] 35); rwa [World.size_alloc] at this)
  have qA0 := cell_of_row _ _ 0 _ _ _ gA
  have qA1 := cell_of_row _ _ 1 _ _ _ gA
  simp only [List.getElem?_toArray, List.getElem?_cons_zero, List.getElem?_cons_succ] at qA0 qA1
  have gAl : w.heap.size < w2.heap.size := by omega
  have h2 := (h.mono b1).mono b2
  have k2 := (hk.mono b1).mono b2
  have bt := below_then b1 b2
  have vk : ∀ i, i < n → ∃ x l c, ([] : List Value)[i]? = some (.slice x l c) ∧ BytesAt w2 x l c (ks.getD i []) := fun i hi => by have := HN0.out; omega
  have HK0 := Lib.hid (show key = [] from List.eq_nil_of_length_eq_zero (k2.len_eq.trans HY0.out))
  have h2l := h2.len
  have gRl : w.heap.size + 1 < w2.heap.size := by omega
  have hAR : w.heap.size ≠ w.heap.size + 1 := by omega
  clear b1 b2 h hk
  go_upto_region 6 with fail
  refine wp_region_noPanic ?_
  refine wp_region_held_drew (S := fun w' => w'.cell? ⟨w.heap.size, 0, none⟩ = some (.int .i64 cap) ∧ w'.cell? ⟨w.heap.size, 1, none⟩ = some (.slice (a) n c)) (by kernel_rfl) ⟨qA0, qA1⟩ (fun hHeld => ?_)
  have BL := bel_drew (Below.refl w2.heap.size w2)
  refine wpAnyH_take (i := 0) (v := ?_) rfl (by kernel_rfl) (by kernel_rfl) (by kernel_rfl) (fun _ _ _ h => h) (Or.inl ⟨by rfl, ?_⟩) (by assumption) ?_
  rotate_left
  · (intro wq hSw; (try dsimp only at hSw); go_simp; try with_reducible rfl)
  try simp only [Act.put, List.setIfInBounds_toArray, List.set_cons_zero, List.set_cons_succ]
  refine wpAnyH_take (i := 1) (v := ?_) rfl (by kernel_rfl) (by kernel_rfl) (by kernel_rfl) (fun _ _ _ h => h) (Or.inl ⟨by rfl, ?_⟩) (by assumption) ?_
  rotate_left
  · (intro wq hSw; (try dsimp only at hSw); go_simp; try with_reducible rfl)
  try simp only [Act.put, List.setIfInBounds_toArray, List.set_cons_zero, List.set_cons_succ]
  refine wpAnyH_take (i := 3) (v := ?_) rfl (by kernel_rfl) (by kernel_rfl) (by kernel_rfl) (fun _ _ _ h => h) (Or.inl ⟨by rfl, ?_⟩) (by assumption) ?_
  rotate_left
  · (intro wq hSw; (try dsimp only at hSw); go_simp; try with_reducible rfl)
  try simp only [Act.put, List.setIfInBounds_toArray, List.set_cons_zero, List.set_cons_succ]
  refine wpAnyH_take (i := 4) (v := ?_) rfl (by kernel_rfl) (by kernel_rfl) (by kernel_rfl) (fun _ _ _ h => h) (Or.inl ⟨by rfl, ?_⟩) (by assumption) ?_
  rotate_left
  · (intro wq hSw; (try dsimp only at hSw); go_simp; try with_reducible rfl)
  try simp only [Act.put, List.setIfInBounds_toArray, List.set_cons_zero, List.set_cons_succ]
  refine wpAnyH_take (i := 7) (v := ?_) rfl (by kernel_rfl) (by kernel_rfl) (by kernel_rfl) (fun _ _ _ h => h) (Or.inl ⟨by rfl, ?_⟩) (by assumption) ?_
  rotate_left
  · (intro wq hSw; (try dsimp only at hSw); go_simp; try with_reducible rfl)
  try simp only [Act.put, List.setIfInBounds_toArray, List.set_cons_zero, List.set_cons_succ]
  refine wpAnyH_take (i := 12) (v := ?_) rfl (by kernel_rfl) (by kernel_rfl) (by kernel_rfl) (fun _ _ _ h => h) (Or.inl ⟨by rfl, ?_⟩) (by assumption) ?_
  rotate_left
  · (intro wq hSw; (try dsimp only at hSw); go_simp; try with_reducible rfl)
  try simp only [Act.put, List.setIfInBounds_toArray, List.set_cons_zero, List.set_cons_succ]
  refine wpAnyH_take (i := 13) (v := ?_) rfl (by kernel_rfl) (by kernel_rfl) (by kernel_rfl) (fun _ _ _ h => h) (Or.inl ⟨by rfl, ?_⟩) (by assumption) ?_
  rotate_left
  · (intro wq hSw; (try dsimp only at hSw); go_simp; try with_reducible rfl)
  try simp only [Act.put, List.setIfInBounds_toArray, List.set_cons_zero, List.set_cons_succ]
  refine wpAnyH_take (i := 14) (v := ?_) rfl (by kernel_rfl) (by kernel_rfl) (by kernel_rfl) (fun _ _ _ h => h) (Or.inl ⟨by rfl, ?_⟩) (by assumption) ?_
  rotate_left
  · (intro wq hSw; (try dsimp only at hSw); go_simp; try with_reducible rfl)
  try simp only [Act.put, List.setIfInBounds_toArray, List.set_cons_zero, List.set_cons_succ]
  refine wpAnyH_ready (rs := [2, 6]) (by kernel_rfl) (by simp) ?_
  refine AllReadyH.cons rfl (fun K hK => ?_) (AllReadyH.cons rfl (fun K hK => ?_) (AllReadyH.nil))
  · skip
    go_simp
    have BL := bel_alloc BL (.cells #[] 23)
    have r0 := (BL.cell (p := ⟨w.heap.size, 0, none⟩) gAl).trans qA0
    have r1 := (BL.cell (p := ⟨w.heap.size, 1, none⟩) gAl).trans qA1
    refine hK.out _ _ ⟨r0, r1⟩ (fun hHeld => ?_)
    clear hK K r0 r1
    try simp only [Act.put, List.setIfInBounds_toArray, List.set_cons_zero, List.set_cons_succ]
    refine wpAnyH_ready (rs := [5, 6]) (by kernel_rfl) (by simp) ?_
    refine AllReadyH.cons rfl (fun K hK => ?_) (AllReadyH.cons rfl (fun K hK => ?_) (AllReadyH.nil))
    · skip
      refine step_append_nil rfl (.tmp 28) (.tmp 30) 22 23 rfl Try.underlying22 (.slice none 0 0) 24 Try.info_row _ _ (by rfl) _ n c (by rfl) HN0.out ?_
      intro v31 hv31
      change K (Act.put _ (some 31) v31) _
      have hg31 : ∃ g, v31 = .slice (some g) 0 0 := ⟨_, hv31⟩
      clear hv31
      obtain ⟨g31, rfl⟩ := hg31
      have r0 := (BL.cell (p := ⟨w.heap.size, 0, none⟩) gAl).trans qA0
      have r1 := (BL.cell (p := ⟨w.heap.size, 1, none⟩) gAl).trans qA1
      refine hK.out _ _ ⟨r0, r1⟩ (fun hHeld => ?_)
      clear hK K r0 r1
      try simp only [Act.put, List.setIfInBounds_toArray, List.set_cons_zero, List.set_cons_succ]
      refine wpAnyH_ready (rs := [6]) (by kernel_rfl) (by simp) ?_
      refine AllReadyH.cons rfl (fun K hK => ?_) (AllReadyH.nil)
      go_simp
      have BL := bel_alloc BL (.cells #[] 5)
      have r0 := (BL.cell (p := ⟨w.heap.size, 0, none⟩) gAl).trans qA0
      have r1 := (BL.cell (p := ⟨w.heap.size, 1, none⟩) gAl).trans qA1
      refine hK.out _ _ ⟨r0, r1⟩ (fun hHeld => ?_)
      clear hK K r0 r1
      try simp only [Act.put, List.setIfInBounds_toArray, List.set_cons_zero, List.set_cons_succ]
      refine wpAnyH_ready (rs := [8]) (by kernel_rfl) (by simp) ?_
      refine AllReadyH.cons rfl (fun K hK => ?_) (AllReadyH.nil)
      refine step_append_nil rfl (.tmp 32) (.tmp 33) 23 5 rfl Try.underlying23 (.int .u8 0) 1 Try.info_u8 _ _ (by rfl) _ yl yc (by rfl) HY0.out ?_
      intro v34 hv34
      change K (Act.put _ (some 34) v34) _
      have hg34 : ∃ g, v34 = .slice (some g) 0 0 := ⟨_, hv34⟩
      clear hv34
      obtain ⟨g34, rfl⟩ := hg34
      have r0 := (BL.cell (p := ⟨w.heap.size, 0, none⟩) gAl).trans qA0
      have r1 := (BL.cell (p := ⟨w.heap.size, 1, none⟩) gAl).trans qA1
      refine hK.out _ _ ⟨r0, r1⟩ (fun hHeld => ?_)
      clear hK K r0 r1
      try simp only [Act.put, List.setIfInBounds_toArray, List.set_cons_zero, List.set_cons_succ]
      refine wpAnyH_ready (rs := [9]) (by kernel_rfl) (by simp) ?_
      refine AllReadyH.cons rfl (fun K hK => ?_) (AllReadyH.nil)
      go_simp
      have C35 := cell_new_at _ (.slice (some g34) 0 0) 23 BL
      try simp only [World.size_alloc] at C35
      have BL := bel_alloc BL (.cells #[.slice (some g34) 0 0] 23)
      have r0 := (BL.cell (p := ⟨w.heap.size, 0, none⟩) gAl).trans qA0
      have r1 := (BL.cell (p := ⟨w.heap.size, 1, none⟩) gAl).trans qA1
      refine hK.out _ _ ⟨r0, r1⟩ (fun hHeld => ?_)
      clear hK K r0 r1
      try simp only [Act.put, List.setIfInBounds_toArray, List.set_cons_zero, List.set_cons_succ]
      refine wpAnyH_ready (rs := [10]) (by kernel_rfl) (by simp) ?_
      refine AllReadyH.cons rfl (fun K hK => ?_) (AllReadyH.nil)
      refine step_append_fresh rfl (.tmp 31) (.tmp 35) 22 23 rfl Try.underlying22 (.slice none 0 0) 24 Try.info_row rfl _ (by rfl) _ 1 1 (by decide) [.slice (some g34) 0 0] (by rfl) rfl (one_cell C35) (by unfold maxLen; omega) (by omega) ?_
      intro v36 w36 O36 at36 BN
      change K (Act.put _ (some 36) v36) _
      have O36 : w36.ownsRow w2.heap.size 23 1 v36 (n + 1) ([] ++ [.slice (some g34) 0 0]) := by rw [HN0.out]; exact own_low O36 BL.size
      have BL := below_then BL BN
      obtain ⟨g36, c36, rfl, hg36, hR⟩ := rows_snoc0 BL (.of_nil HK0.out) h2l (by omega) vk O36
      have gR := (BL.block _ gRl).trans gR
      have k0 := cell_of_row _ _ 0 _ _ _ gR
      have k1 := cell_of_row _ _ 1 _ _ _ gR
      simp only [List.getElem?_toArray, List.getElem?_cons_zero, List.getElem?_cons_succ] at k0 k1
      have f0 := frozen_of_row w36 _ 0 _ _ gR
      have f1 := frozen_of_row w36 _ 1 _ _ gR
      have r0 := (BL.cell (p := ⟨w.heap.size, 0, none⟩) gAl).trans qA0
      have r1 := (BL.cell (p := ⟨w.heap.size, 1, none⟩) gAl).trans qA1
      refine hK.out _ _ ⟨r0, r1⟩ (fun hHeld => ?_)
      clear hK K
      try simp only [Act.put, List.setIfInBounds_toArray, List.set_cons_zero, List.set_cons_succ]
      refine wpAnyH_take (i := 11) (v := ?_) rfl (by kernel_rfl) (by kernel_rfl) (by kernel_rfl) (fun _ _ _ h => h) (Or.inl ⟨by rfl, ?_⟩) (by assumption) ?_
      rotate_left
      · (intro wq hSw; (try dsimp only at hSw); go_simp; try with_reducible rfl)
      try simp only [Act.put, List.setIfInBounds_toArray, List.set_cons_zero, List.set_cons_succ]
      refine wpAnyH_ready (rs := [15]) (by kernel_rfl) (by simp) ?_
      refine AllReadyH.cons rfl (fun K hK => ?_) (AllReadyH.nil)
      go_simp
      refine hK.out _ _ ⟨two_cell _ _ _ _ hAR r0, two_cell _ _ _ _ hAR r1⟩ (fun hHeld => ?_)
      clear hK K
      try simp only [Act.put, List.setIfInBounds_toArray, List.set_cons_zero, List.set_cons_succ]
      refine wpAnyH_take (i := 16) (v := ?_) rfl (by kernel_rfl) (by kernel_rfl) (by kernel_rfl) (fun _ _ _ h => h) (Or.inl ⟨by rfl, ?_⟩) (by assumption) ?_
      rotate_left
      · (intro wq hSw; (try dsimp only at hSw); go_simp; try with_reducible rfl)
      try simp only [Act.put, List.setIfInBounds_toArray, List.set_cons_zero, List.set_cons_succ]
      refine wpAnyH_take (i := 17) (v := ?_) rfl (by kernel_rfl) (by kernel_rfl) (by kernel_rfl) (fun _ _ _ h => h) (Or.inl ⟨by rfl, ?_⟩) (by assumption) ?_
      rotate_left
      · (intro wq hSw; (try dsimp only at hSw); go_simp; try with_reducible rfl)
      try simp only [Act.put, List.setIfInBounds_toArray, List.set_cons_zero, List.set_cons_succ]
      refine wpAnyH_take (i := 18) (v := ?_) rfl (by kernel_rfl) (by kernel_rfl) (by kernel_rfl) (fun _ _ _ h => h) (Or.inl ⟨by rfl, ?_⟩) (by assumption) ?_
      rotate_left
      · (intro wq hSw; (try dsimp only at hSw); go_simp; try with_reducible rfl)
      try simp only [Act.put, List.setIfInBounds_toArray, List.set_cons_zero, List.set_cons_succ]
      refine wpAnyH_done (by kernel_rfl) ?_ _
      refine NoPanic.normal ?_
      have gF := two_row w36 (w.heap.size + 1) (.int .i64 cap) (.slice (some ⟨g36, 0, none⟩) (n + 1) c36) gR
      have BF := (bt.trans (BL.mono (by omega))).setCell (p := ⟨w.heap.size + 1, 0, none⟩) (Nat.le_succ _) (.int .i64 cap) |>.setCell (p := ⟨w.heap.size + 1, 1, none⟩) (Nat.le_succ _) (.slice (some ⟨g36, 0, none⟩) (n + 1) c36)
      have q0 := cell_of_row _ _ 0 _ _ _ gF
      have q1 := cell_of_row _ _ 1 _ _ _ gF
      simp only [List.getElem?_toArray, List.getElem?_cons_zero, List.getElem?_cons_succ] at q0 q1
      have hRF : RowsK ((w36.setCell ⟨w.heap.size + 1, 0, none⟩ (.int .i64 cap)).setCell ⟨w.heap.size + 1, 1, none⟩ (.slice (some ⟨g36, 0, none⟩) (n + 1) c36)) (some ⟨g36, 0, none⟩) (n + 1) (ks ++ [key]) := hR.recd (by omega) (noU8_rec gR fun v hv m => by simp at hv; rcases hv with rfl | rfl <;> simp) (by simp [World.setCell]) (fun b hb => (Below.heap_setCell _ _ _ _ hb).trans (Below.heap_setCell _ _ _ _ hb))
      try simp only [List.getElem_toArray, List.getElem_cons_succ, List.getElem_cons_zero, Act.put, List.setIfInBounds_toArray, List.set_cons_zero, List.set_cons_succ]
      go_wp2_with fail
      exact bodyPost_ret (v := .tuple #[.agg #[.int .i64 cap, .slice (some ⟨g36, 0, none⟩) (n + 1) c36], .int .i64 (n : Nat), .bool true, .int .i64 0]) (by simp [results, Try.results15, go_sem, q0, q1]) rfl ⟨g36, c36, rfl, hRF, BF, by omega⟩
    · skip
      go_simp
      have BL := bel_alloc BL (.cells #[] 5)
      have r0 := (BL.cell (p := ⟨w.heap.size, 0, none⟩) gAl).trans qA0
      have r1 := (BL.cell (p := ⟨w.heap.size, 1, none⟩) gAl).trans qA1
      refine hK.out _ _ ⟨r0, r1⟩ (fun hHeld => ?_)
      clear hK K r0 r1
      try simp only [Act.put, List.setIfInBounds_toArray, List.set_cons_zero, List.set_cons_succ]
      refine wpAnyH_ready (rs := [5]) (by kernel_rfl) (by simp) ?_
      refine AllReadyH.cons rfl (fun K hK => ?_) (AllReadyH.nil)
      refine step_append_nil rfl (.tmp 28) (.tmp 30) 22 23 rfl Try.underlying22 (.slice none 0 0) 24 Try.info_row _ _ (by rfl) _ n c (by rfl) HN0.out ?_
      intro v31 hv31
      change K (Act.put _ (some 31) v31) _
      have hg31 : ∃ g, v31 = .slice (some g) 0 0 := ⟨_, hv31⟩
      clear hv31
      obtain ⟨g31, rfl⟩ := hg31
      have r0 := (BL.cell (p := ⟨w.heap.size, 0, none⟩) gAl).trans qA0
      have r1 := (BL.cell (p := ⟨w.heap.size, 1, none⟩) gAl).trans qA1
      refine hK.out _ _ ⟨r0, r1⟩ (fun hHeld => ?_)
      clear hK K r0 r1
      try simp only [Act.put, List.setIfInBounds_toArray, List.set_cons_zero, List.set_cons_succ]
      refine wpAnyH_ready (rs := [8]) (by kernel_rfl) (by simp) ?_
      refine AllReadyH.cons rfl (fun K hK => ?_) (AllReadyH.nil)
      refine step_append_nil rfl (.tmp 32) (.tmp 33) 23 5 rfl Try.underlying23 (.int .u8 0) 1 Try.info_u8 _ _ (by rfl) _ yl yc (by rfl) HY0.out ?_
      intro v34 hv34
      change K (Act.put _ (some 34) v34) _
      have hg34 : ∃ g, v34 = .slice (some g) 0 0 := ⟨_, hv34⟩
      clear hv34
      obtain ⟨g34, rfl⟩ := hg34
      have r0 := (BL.cell (p := ⟨w.heap.size, 0, none⟩) gAl).trans qA0
      have r1 := (BL.cell (p := ⟨w.heap.size, 1, none⟩) gAl).trans qA1
      refine hK.out _ _ ⟨r0, r1⟩ (fun hHeld => ?_)
      clear hK K r0 r1
      try simp only [Act.put, List.setIfInBounds_toArray, List.set_cons_zero, List.set_cons_succ]
      refine wpAnyH_ready (rs := [9]) (by kernel_rfl) (by simp) ?_
      refine AllReadyH.cons rfl (fun K hK => ?_) (AllReadyH.nil)
      go_simp
      have C35 := cell_new_at _ (.slice (some g34) 0 0) 23 BL
      try simp only [World.size_alloc] at C35
      have BL := bel_alloc BL (.cells #[.slice (some g34) 0 0] 23)
      have r0 := (BL.cell (p := ⟨w.heap.size, 0, none⟩) gAl).trans qA0
      have r1 := (BL.cell (p := ⟨w.heap.size, 1, none⟩) gAl).trans qA1
      refine hK.out _ _ ⟨r0, r1⟩ (fun hHeld => ?_)
      clear hK K r0 r1
      try simp only [Act.put, List.setIfInBounds_toArray, List.set_cons_zero, List.set_cons_succ]
      refine wpAnyH_ready (rs := [10]) (by kernel_rfl) (by simp) ?_
      refine AllReadyH.cons rfl (fun K hK => ?_) (AllReadyH.nil)
      refine step_append_fresh rfl (.tmp 31) (.tmp 35) 22 23 rfl Try.underlying22 (.slice none 0 0) 24 Try.info_row rfl _ (by rfl) _ 1 1 (by decide) [.slice (some g34) 0 0] (by rfl) rfl (one_cell C35) (by unfold maxLen; omega) (by omega) ?_
      intro v36 w36 O36 at36 BN
      change K (Act.put _ (some 36) v36) _
      have O36 : w36.ownsRow w2.heap.size 23 1 v36 (n + 1) ([] ++ [.slice (some g34) 0 0]) := by rw [HN0.out]; exact own_low O36 BL.size
      have BL := below_then BL BN
      obtain ⟨g36, c36, rfl, hg36, hR⟩ := rows_snoc0 BL (.of_nil HK0.out) h2l (by omega) vk O36
      have gR := (BL.block _ gRl).trans gR
      have k0 := cell_of_row _ _ 0 _ _ _ gR
      have k1 := cell_of_row _ _ 1 _ _ _ gR
      simp only [List.getElem?_toArray, List.getElem?_cons_zero, List.getElem?_cons_succ] at k0 k1
      have f0 := frozen_of_row w36 _ 0 _ _ gR
      have f1 := frozen_of_row w36 _ 1 _ _ gR
      have r0 := (BL.cell (p := ⟨w.heap.size, 0, none⟩) gAl).trans qA0
      have r1 := (BL.cell (p := ⟨w.heap.size, 1, none⟩) gAl).trans qA1
      refine hK.out _ _ ⟨r0, r1⟩ (fun hHeld => ?_)
      clear hK K
      try simp only [Act.put, List.setIfInBounds_toArray, List.set_cons_zero, List.set_cons_succ]
      refine wpAnyH_take (i := 11) (v := ?_) rfl (by kernel_rfl) (by kernel_rfl) (by kernel_rfl) (fun _ _ _ h => h) (Or.inl ⟨by rfl, ?_⟩) (by assumption) ?_
      rotate_left
      · (intro wq hSw; (try dsimp only at hSw); go_simp; try with_reducible rfl)
      try simp only [Act.put, List.setIfInBounds_toArray, List.set_cons_zero, List.set_cons_succ]
      refine wpAnyH_ready (rs := [15]) (by kernel_rfl) (by simp) ?_
      refine AllReadyH.cons rfl (fun K hK => ?_) (AllReadyH.nil)
      go_simp
      refine hK.out _ _ ⟨two_cell _ _ _ _ hAR r0, two_cell _ _ _ _ hAR r1⟩ (fun hHeld => ?_)
      clear hK K
      try simp only [Act.put, List.setIfInBounds_toArray, List.set_cons_zero, List.set_cons_succ]
      refine wpAnyH_take (i := 16) (v := ?_) rfl (by kernel_rfl) (by kernel_rfl) (by kernel_rfl) (fun _ _ _ h => h) (Or.inl ⟨by rfl, ?_⟩) (by assumption) ?_
      rotate_left
      · (intro wq hSw; (try dsimp only at hSw); go_simp; try with_reducible rfl)
      try simp only [Act.put, List.setIfInBounds_toArray, List.set_cons_zero, List.set_cons_succ]
      refine wpAnyH_take (i := 17) (v := ?_) rfl (by kernel_rfl) (by kernel_rfl) (by kernel_rfl) (fun _ _ _ h => h) (Or.inl ⟨by rfl, ?_⟩) (by assumption) ?_
      rotate_left
      · (intro wq hSw; (try dsimp only at hSw); go_simp; try with_reducible rfl)
      try simp only [Act.put, List.setIfInBounds_toArray, List.set_cons_zero, List.set_cons_succ]
      refine wpAnyH_take (i := 18) (v := ?_) rfl (by kernel_rfl) (by kernel_rfl) (by kernel_rfl) (fun _ _ _ h => h) (Or.inl ⟨by rfl, ?_⟩) (by assumption) ?_
      rotate_left
      · (intro wq hSw; (try dsimp only at hSw); go_simp; try with_reducible rfl)
      try simp only [Act.put, List.setIfInBounds_toArray, List.set_cons_zero, List.set_cons_succ]
      refine wpAnyH_done (by kernel_rfl) ?_ _
      refine NoPanic.normal ?_
      have gF := two_row w36 (w.heap.size + 1) (.int .i64 cap) (.slice (some ⟨g36, 0, none⟩) (n + 1) c36) gR
      have BF := (bt.trans (BL.mono (by omega))).setCell (p := ⟨w.heap.size + 1, 0, none⟩) (Nat.le_succ _) (.int .i64 cap) |>.setCell (p := ⟨w.heap.size + 1, 1, none⟩) (Nat.le_succ _) (.slice (some ⟨g36, 0, none⟩) (n + 1) c36)
      have q0 := cell_of_row _ _ 0 _ _ _ gF
      have q1 := cell_of_row _ _ 1 _ _ _ gF
      simp only [List.getElem?_toArray, List.getElem?_cons_zero, List.getElem?_cons_succ] at q0 q1
      have hRF : RowsK ((w36.setCell ⟨w.heap.size + 1, 0, none⟩ (.int .i64 cap)).setCell ⟨w.heap.size + 1, 1, none⟩ (.slice (some ⟨g36, 0, none⟩) (n + 1) c36)) (some ⟨g36, 0, none⟩) (n + 1) (ks ++ [key]) := hR.recd (by omega) (noU8_rec gR fun v hv m => by simp at hv; rcases hv with rfl | rfl <;> simp) (by simp [World.setCell]) (fun b hb => (Below.heap_setCell _ _ _ _ hb).trans (Below.heap_setCell _ _ _ _ hb))
      try simp only [List.getElem_toArray, List.getElem_cons_succ, List.getElem_cons_zero, Act.put, List.setIfInBounds_toArray, List.set_cons_zero, List.set_cons_succ]
      go_wp2_with fail
      exact bodyPost_ret (v := .tuple #[.agg #[.int .i64 cap, .slice (some ⟨g36, 0, none⟩) (n + 1) c36], .int .i64 (n : Nat), .bool true, .int .i64 0]) (by simp [results, Try.results15, go_sem, q0, q1]) rfl ⟨g36, c36, rfl, hRF, BF, by omega⟩
  · skip
    go_simp
    have BL := bel_alloc BL (.cells #[] 5)
    have r0 := (BL.cell (p := ⟨w.heap.size, 0, none⟩) gAl).trans qA0
    have r1 := (BL.cell (p := ⟨w.heap.size, 1, none⟩) gAl).trans qA1
    refine hK.out _ _ ⟨r0, r1⟩ (fun hHeld => ?_)
    clear hK K r0 r1
    try simp only [Act.put, List.setIfInBounds_toArray, List.set_cons_zero, List.set_cons_succ]
    refine wpAnyH_ready (rs := [2]) (by kernel_rfl) (by simp) ?_
    refine AllReadyH.cons rfl (fun K hK => ?_) (AllReadyH.nil)
    go_simp
    have BL := bel_alloc BL (.cells #[] 23)
    have r0 := (BL.cell (p := ⟨w.heap.size, 0, none⟩) gAl).trans qA0
    have r1 := (BL.cell (p := ⟨w.heap.size, 1, none⟩) gAl).trans qA1
    refine hK.out _ _ ⟨r0, r1⟩ (fun hHeld => ?_)
    clear hK K r0 r1
    try simp only [Act.put, List.setIfInBounds_toArray, List.set_cons_zero, List.set_cons_succ]
    refine wpAnyH_ready (rs := [5]) (by kernel_rfl) (by simp) ?_
    refine AllReadyH.cons rfl (fun K hK => ?_) (AllReadyH.nil)
    refine step_append_nil rfl (.tmp 28) (.tmp 30) 22 23 rfl Try.underlying22 (.slice none 0 0) 24 Try.info_row _ _ (by rfl) _ n c (by rfl) HN0.out ?_
    intro v31 hv31
    change K (Act.put _ (some 31) v31) _
    have hg31 : ∃ g, v31 = .slice (some g) 0 0 := ⟨_, hv31⟩
    clear hv31
    obtain ⟨g31, rfl⟩ := hg31
    have r0 := (BL.cell (p := ⟨w.heap.size, 0, none⟩) gAl).trans qA0
    have r1 := (BL.cell (p := ⟨w.heap.size, 1, none⟩) gAl).trans qA1
    refine hK.out _ _ ⟨r0, r1⟩ (fun hHeld => ?_)
    clear hK K r0 r1
    try simp only [Act.put, List.setIfInBounds_toArray, List.set_cons_zero, List.set_cons_succ]
    refine wpAnyH_ready (rs := [8]) (by kernel_rfl) (by simp) ?_
    refine AllReadyH.cons rfl (fun K hK => ?_) (AllReadyH.nil)
    refine step_append_nil rfl (.tmp 32) (.tmp 33) 23 5 rfl Try.underlying23 (.int .u8 0) 1 Try.info_u8 _ _ (by rfl) _ yl yc (by rfl) HY0.out ?_
    intro v34 hv34
    change K (Act.put _ (some 34) v34) _
    have hg34 : ∃ g, v34 = .slice (some g) 0 0 := ⟨_, hv34⟩
    clear hv34
    obtain ⟨g34, rfl⟩ := hg34
    have r0 := (BL.cell (p := ⟨w.heap.size, 0, none⟩) gAl).trans qA0
    have r1 := (BL.cell (p := ⟨w.heap.size, 1, none⟩) gAl).trans qA1
    refine hK.out _ _ ⟨r0, r1⟩ (fun hHeld => ?_)
    clear hK K r0 r1
    try simp only [Act.put, List.setIfInBounds_toArray, List.set_cons_zero, List.set_cons_succ]
    refine wpAnyH_ready (rs := [9]) (by kernel_rfl) (by simp) ?_
    refine AllReadyH.cons rfl (fun K hK => ?_) (AllReadyH.nil)
    go_simp
    have C35 := cell_new_at _ (.slice (some g34) 0 0) 23 BL
    try simp only [World.size_alloc] at C35
    have BL := bel_alloc BL (.cells #[.slice (some g34) 0 0] 23)
    have r0 := (BL.cell (p := ⟨w.heap.size, 0, none⟩) gAl).trans qA0
    have r1 := (BL.cell (p := ⟨w.heap.size, 1, none⟩) gAl).trans qA1
    refine hK.out _ _ ⟨r0, r1⟩ (fun hHeld => ?_)
    clear hK K r0 r1
    try simp only [Act.put, List.setIfInBounds_toArray, List.set_cons_zero, List.set_cons_succ]
    refine wpAnyH_ready (rs := [10]) (by kernel_rfl) (by simp) ?_
    refine AllReadyH.cons rfl (fun K hK => ?_) (AllReadyH.nil)
    refine step_append_fresh rfl (.tmp 31) (.tmp 35) 22 23 rfl Try.underlying22 (.slice none 0 0) 24 Try.info_row rfl _ (by rfl) _ 1 1 (by decide) [.slice (some g34) 0 0] (by rfl) rfl (one_cell C35) (by unfold maxLen; omega) (by omega) ?_
    intro v36 w36 O36 at36 BN
    change K (Act.put _ (some 36) v36) _
    have O36 : w36.ownsRow w2.heap.size 23 1 v36 (n + 1) ([] ++ [.slice (some g34) 0 0]) := by rw [HN0.out]; exact own_low O36 BL.size
    have BL := below_then BL BN
    obtain ⟨g36, c36, rfl, hg36, hR⟩ := rows_snoc0 BL (.of_nil HK0.out) h2l (by omega) vk O36
    have gR := (BL.block _ gRl).trans gR
    have k0 := cell_of_row _ _ 0 _ _ _ gR
    have k1 := cell_of_row _ _ 1 _ _ _ gR
    simp only [List.getElem?_toArray, List.getElem?_cons_zero, List.getElem?_cons_succ] at k0 k1
    have f0 := frozen_of_row w36 _ 0 _ _ gR
    have f1 := frozen_of_row w36 _ 1 _ _ gR
    have r0 := (BL.cell (p := ⟨w.heap.size, 0, none⟩) gAl).trans qA0
    have r1 := (BL.cell (p := ⟨w.heap.size, 1, none⟩) gAl).trans qA1
    refine hK.out _ _ ⟨r0, r1⟩ (fun hHeld => ?_)
    clear hK K
    try simp only [Act.put, List.setIfInBounds_toArray, List.set_cons_zero, List.set_cons_succ]
    refine wpAnyH_take (i := 11) (v := ?_) rfl (by kernel_rfl) (by kernel_rfl) (by kernel_rfl) (fun _ _ _ h => h) (Or.inl ⟨by rfl, ?_⟩) (by assumption) ?_
    rotate_left
    · (intro wq hSw; (try dsimp only at hSw); go_simp; try with_reducible rfl)
    try simp only [Act.put, List.setIfInBounds_toArray, List.set_cons_zero, List.set_cons_succ]
    refine wpAnyH_ready (rs := [15]) (by kernel_rfl) (by simp) ?_
    refine AllReadyH.cons rfl (fun K hK => ?_) (AllReadyH.nil)
    go_simp
    refine hK.out _ _ ⟨two_cell _ _ _ _ hAR r0, two_cell _ _ _ _ hAR r1⟩ (fun hHeld => ?_)
    clear hK K
    try simp only [Act.put, List.setIfInBounds_toArray, List.set_cons_zero, List.set_cons_succ]
    refine wpAnyH_take (i := 16) (v := ?_) rfl (by kernel_rfl) (by kernel_rfl) (by kernel_rfl) (fun _ _ _ h => h) (Or.inl ⟨by rfl, ?_⟩) (by assumption) ?_
    rotate_left
    · (intro wq hSw; (try dsimp only at hSw); go_simp; try with_reducible rfl)
    try simp only [Act.put, List.setIfInBounds_toArray, List.set_cons_zero, List.set_cons_succ]
    refine wpAnyH_take (i := 17) (v := ?_) rfl (by kernel_rfl) (by kernel_rfl) (by kernel_rfl) (fun _ _ _ h => h) (Or.inl ⟨by rfl, ?_⟩) (by assumption) ?_
    rotate_left
    · (intro wq hSw; (try dsimp only at hSw); go_simp; try with_reducible rfl)
    try simp only [Act.put, List.setIfInBounds_toArray, List.set_cons_zero, List.set_cons_succ]
    refine wpAnyH_take (i := 18) (v := ?_) rfl (by kernel_rfl) (by kernel_rfl) (by kernel_rfl) (fun _ _ _ h => h) (Or.inl ⟨by rfl, ?_⟩) (by assumption) ?_
    rotate_left
    · (intro wq hSw; (try dsimp only at hSw); go_simp; try with_reducible rfl)
    try simp only [Act.put, List.setIfInBounds_toArray, List.set_cons_zero, List.set_cons_succ]
    refine wpAnyH_done (by kernel_rfl) ?_ _
    refine NoPanic.normal ?_
    have gF := two_row w36 (w.heap.size + 1) (.int .i64 cap) (.slice (some ⟨g36, 0, none⟩) (n + 1) c36) gR
    have BF := (bt.trans (BL.mono (by omega))).setCell (p := ⟨w.heap.size + 1, 0, none⟩) (Nat.le_succ _) (.int .i64 cap) |>.setCell (p := ⟨w.heap.size + 1, 1, none⟩) (Nat.le_succ _) (.slice (some ⟨g36, 0, none⟩) (n + 1) c36)
    have q0 := cell_of_row _ _ 0 _ _ _ gF
    have q1 := cell_of_row _ _ 1 _ _ _ gF
    simp only [List.getElem?_toArray, List.getElem?_cons_zero, List.getElem?_cons_succ] at q0 q1
    have hRF : RowsK ((w36.setCell ⟨w.heap.size + 1, 0, none⟩ (.int .i64 cap)).setCell ⟨w.heap.size + 1, 1, none⟩ (.slice (some ⟨g36, 0, none⟩) (n + 1) c36)) (some ⟨g36, 0, none⟩) (n + 1) (ks ++ [key]) := hR.recd (by omega) (noU8_rec gR fun v hv m => by simp at hv; rcases hv with rfl | rfl <;> simp) (by simp [World.setCell]) (fun b hb => (Below.heap_setCell _ _ _ _ hb).trans (Below.heap_setCell _ _ _ _ hb))
    try simp only [List.getElem_toArray, List.getElem_cons_succ, List.getElem_cons_zero, Act.put, List.setIfInBounds_toArray, List.set_cons_zero, List.set_cons_succ]
    go_wp2_with fail
    exact bodyPost_ret (v := .tuple #[.agg #[.int .i64 cap, .slice (some ⟨g36, 0, none⟩) (n + 1) c36], .int .i64 (n : Nat), .bool true, .int .i64 0]) (by simp [results, Try.results15, go_sem, q0, q1]) rfl ⟨g36, c36, rfl, hRF, BF, by omega⟩
end Go.Proofs.Ytkklciecdhbleaa
