/- The document's Insert. -/
import Derived.Test.YtkklciecdhbleaaTabRI
namespace Go.Proofs.Ytkklciecdhbleaa
open Go.RowKit
set_option linter.unusedVariables false
set_option linter.unusedSimpArgs false

theorem bel_alloc {w a : World} (h : Below w.heap.size w a) (o : Obj) : Below w.heap.size w (a.alloc o) := below_then h ((Below.refl _ _).alloc (Nat.le_refl _) o)
theorem bel_drew {w a : World} (h : Below w.heap.size w a) : Below w.heap.size w a.drew := below_then h (Below.refl _ _).drew
theorem one_cell {w : World} {g : Nat} {v : Value} (h : w.cell? ⟨g, 0, none⟩ = some v) : ∀ (j : Nat) (u : Value), [v][j]? = some u → w.cell? ((⟨g, 0, none⟩ : Addr).add j) = some u := fun j u hj => by
  match j, hj with
  | 0, hj => rw [Addr.add_lit]; simp at hj; rw [← hj]; exact h
  | j + 1, hj => simp at hj
theorem two_cell (w : World) (g : Nat) (a b : Value) {p : Addr} {v : Value} (h : p.block ≠ g) (hc : w.cell? p = some v) : ((w.setCell ⟨g, 0, none⟩ a).setCell ⟨g, 1, none⟩ b).cell? p = some v :=
  (World.cell?_of_block ((Below.heap_setCell _ _ _ _ h).trans (Below.heap_setCell _ _ _ _ h))).trans hc
theorem two_row (w : World) (g : Nat) (a b : Value) {x y : Value} {t : TypeId} (h : w.heap[g]? = some (.cells #[x, y] t (0, 0))) : ((w.setCell ⟨g, 0, none⟩ a).setCell ⟨g, 1, none⟩ b).heap[g]? = some (.cells #[a, b] t (0, 0)) := by
  have h1 := Joins.block_setCell (i := 0) h a
  have h2 := Joins.block_setCell (i := 1) h1 b
  exact h2
theorem RowsK.recd {w w' : World} {g0 g n : Nat} {ks : List (List Nat)} (h : RowsK w (some ⟨g0, 0, none⟩) n ks) (hne : g0 ≠ g) (hno : NoU8 w g) (hs : w'.heap.size = w.heap.size) (ho : ∀ b, b ≠ g → w'.heap[b]? = w.heap[b]?) : RowsK w' (some ⟨g0, 0, none⟩) n ks := by
  refine ⟨h.1, h.2, ?_⟩
  rcases h.3 with h3 | ⟨b, off, ha, hlt, hi⟩
  · exact .inl h3
  · cases ha
    refine .inr ⟨g0, 0, rfl, by omega, fun i hil => ?_⟩
    obtain ⟨x, l, c, e1, e2⟩ := hi i hil
    exact ⟨x, l, c, (World.cell?_of_block (a := ⟨g0, 0 + i, none⟩) (ho g0 hne)).trans e1, e2.past (bad := fun b => b = g) (fun b hb => hb ▸ hno) (Nat.le_of_eq hs.symm) fun b _ hb => ho b hb⟩
theorem own_ne {w : World} {base base' : Nat} {e e' : TypeId} {v v' : Value} {n n' : Nat} {xs xs' : List Value} (h : w.ownsRow base e 1 v n xs) (h' : w.ownsRow base' e' 1 v' n' xs') (hne : e ≠ e') : v.ownBlock = none ∨ v.ownBlock ≠ v'.ownBlock := by
  rcases h.2 with ⟨rfl, _⟩ | ⟨g, cap, cur, rfl, _, h3, _⟩
  · exact .inl rfl
  · refine .inr ?_
    rcases h'.2 with ⟨rfl, _⟩ | ⟨g', cap', cur', rfl, _, h3', _⟩
    · simp [Value.ownBlock]
    · intro he
      simp [Value.ownBlock] at he
      subst he
      rw [h3] at h3'
      simp at h3'
      exact hne h3'.2
theorem own_low {w : World} {base base' : Nat} {e : TypeId} {v : Value} {n : Nat} {xs : List Value} (h : w.ownsRow base e 1 v n xs) (hb : base' ≤ base) : w.ownsRow base' e 1 v n xs :=
  ⟨h.1, h.2.imp id fun ⟨g, cap, cur, h1, h2, h3⟩ => ⟨g, cap, cur, h1, Nat.le_trans hb h2, h3⟩⟩
theorem cell_lt {w : World} {b o : Nat} {v : Value} (h : w.cell? ⟨b, o, none⟩ = some v) : b < w.heap.size := by
  refine Classical.byContradiction fun hn => ?_
  simp [World.cell?, Array.getElem?_eq_none (Nat.le_of_not_lt hn)] at h
theorem cell_new_at (w : World) (v : Value) (t : TypeId) {w2 : World} (hb : Below w2.heap.size w2 w) : (w.alloc (.cells #[v] t)).cell? ⟨w.heap.size, 0, none⟩ = some v := cell_of_row _ _ 0 _ _ _ (heap_alloc_new w _)
theorem _root_.Go.World.ownsRow.bel {w w' : World} {base : Nat} {e : TypeId} {v : Value} {n : Nat} {xs : List Value} (h : w.ownsRow base e 1 v n xs) (hb : Below w.heap.size w w') : w'.ownsRow base e 1 v n xs := by
  refine ⟨h.1, ?_⟩
  rcases h.2 with h0 | ⟨g, cap, cur, h1, h2, h3, h4⟩
  · exact .inl h0
  · exact .inr ⟨g, cap, cur, h1, h2, (hb.block g (Array.getElem?_eq_some_iff.1 h3).1).trans h3, h4⟩
theorem rows_snoc {w2 w36 : World} {n yl c34 : Nat} {a34 ya : Option Addr} {yc : Nat} {v36 : Value} {vals kv : List Value} {ks : List (List Nat)} {key : List Nat} (BL : Below w2.heap.size w2 w36) (hkv : (key.map fun (n : Nat) => Value.int .u8 (n : Int)) = kv) (k2 : BytesAt w2 ya yl yc key) (hl : ks.length = n) (hn : n ≤ 1048576)
    (vk : ∀ i, i < n → ∃ x l c, vals[i]? = some (.slice x l c) ∧ BytesAt w2 x l c (ks.getD i [])) {B1 B2 : Nat} (O34 : w36.ownsRow B1 5 1 (.slice a34 yl c34) yl kv) (O36 : w36.ownsRow B2 23 1 v36 (n + 1) (vals ++ [.slice a34 yl c34])) :
    ∃ g c36, v36 = .slice (some ⟨g, 0, none⟩) (n + 1) c36 ∧ B2 ≤ g ∧ RowsK w36 (some ⟨g, 0, none⟩) (n + 1) (ks ++ [key]) := by
  subst hkv
  obtain ⟨a', c', he, hby⟩ := ownBytes O34 k2.byte k2.small
  cases he
  rcases O36.2 with ⟨_, h0⟩ | ⟨g, cap, cur, rfl, h1, h3, h4, h5, h6, h7⟩
  · omega
  have hvl : vals.length = n := by have := O36.1; simp at this; omega
  refine ⟨g, cap, rfl, h1, by simp; omega, by omega, .inr ⟨g, 0, rfl, (Array.getElem?_eq_some_iff.1 h3).1, fun i hi => ?_⟩⟩
  have hcell : ∀ v, (vals ++ [Value.slice a34 yl c34])[i]? = some v → w36.cell? ⟨g, 0 + i, none⟩ = some v := fun v hv => by
    rw [← h7, List.getElem?_take] at hv
    rw [Nat.zero_add]
    split at hv
    · exact cell_of_row _ _ i _ _ _ h3 |>.trans (by simpa using hv)
    · cases hv
  by_cases hin : i < n
  · obtain ⟨x, l, c, e1, e2⟩ := vk i hin
    refine ⟨x, l, c, hcell _ (by rw [List.getElem?_append_left (by omega)]; exact e1), ?_⟩
    rw [List.getD_eq_getElem?_getD, List.getElem?_append_left (by omega), ← List.getD_eq_getElem?_getD]
    exact e2.mono BL
  · obtain rfl : i = n := by omega
    refine ⟨_, _, _, hcell _ (by rw [List.getElem?_append_right (by omega), hvl, Nat.sub_self]; rfl), ?_⟩
    rw [List.getD_eq_getElem?_getD, List.getElem?_append_right (by omega), hl, Nat.sub_self]
    exact hby
/-- The cells of a row of byte strings, as a list. -/
theorem RowsK.vals {w : World} {b off n : Nat} {ks : List (List Nat)} (h : RowsK w (some ⟨b, off, none⟩) n ks) (hn : 0 < n) : ∃ vals : List Value, vals.length = n ∧ (∀ j u, vals[j]? = some u → w.cell? ((⟨b, off, none⟩ : Addr).add j) = some u) ∧ (∀ u ∈ vals, u.oneCell' = true) ∧
    (∀ i, i < n → ∃ x l c, vals[i]? = some (.slice x l c) ∧ BytesAt w x l c (ks.getD i [])) ∧ b < w.heap.size := by
  obtain ⟨b', off', he, hb, hi⟩ := h.at_.resolve_left (by omega)
  cases he
  refine ⟨(List.range n).map fun i => (w.cell? ⟨b, off + i, none⟩).getD undef, by simp, fun j u hj => ?_, fun u hu => ?_, fun i hin => ?_, hb⟩
  · have hjn : j < n := by have := (List.getElem?_eq_some_iff.1 hj).1; simpa using this
    obtain ⟨x, l, c, h1, _⟩ := hi j hjn
    rw [List.getElem?_map, List.getElem?_range hjn, Option.map_some, h1] at hj
    rw [Addr.add_lit, h1]
    simpa using hj
  · obtain ⟨i, hi2, rfl⟩ := List.mem_map.1 hu
    obtain ⟨x, l, c, h1, _⟩ := hi i (List.mem_range.1 hi2)
    rw [h1]
    rfl
  · obtain ⟨x, l, c, h1, h2⟩ := hi i hin
    exact ⟨x, l, c, by rw [List.getElem?_map, List.getElem?_range hin, Option.map_some, h1]; rfl, h2⟩
set_option maxHeartbeats 2000000 in
theorem refinsert_new (w : World) (cap : Int) (b off : Nat) (n c : Nat) (ks : List (List Nat)) (h : RowsK w (some ⟨b, off, none⟩) n ks) (hn0 : 0 < n) (yb yo : Nat) (yl yc : Nat) (key : List Nat) (hk : BytesAt w (some ⟨yb, yo, none⟩) yl yc key) (hy0 : 0 < yl) (hno : key ∉ ks) (hlt : (n : Int) < cap) (hn : n ≤ 1048576) (hyl : yl ≤ 1000000) :
    Calls Try.prog 15 #[.agg #[.int .i64 cap, .slice (some ⟨b, off, none⟩) n c], .slice (some ⟨yb, yo, none⟩) yl yc] w fun e w' => ∃ (g c' : Nat), e = .returned (.tuple #[.agg #[.int .i64 cap, .slice (some ⟨g, 0, none⟩) (n + 1) c'], .int .i64 (n : Nat), .bool true, .int .i64 0]) ∧ RowsK w' (some ⟨g, 0, none⟩) (n + 1) (ks ++ [key]) ∧ Below w.heap.size w w' ∧ w.heap.size ≤ g := by
  have b1 : Below w.heap.size w ((w.alloc (.cells #[.int .i64 cap, .slice (some ⟨b, off, none⟩) n c] 35)).alloc (.cells #[.int .i64 0, .slice none 0 0] 35)) := bel_alloc (bel_alloc (Below.refl _ _) _) _
  have d1 : decide (cap ≤ (n : Int)) = false := by simp; omega
  go_enter Try.func15, Try.ntmps15
  go_wp2_with fail
  refine (reffind_le _ cap (some ⟨b, off, none⟩) n c ks (h.mono b1) (some ⟨yb, yo, none⟩) yl yc key (hk.mono b1)).mono ?_
  rintro e w2 ⟨⟨p, rfl, _, _⟩, b2⟩
  rw [decide_eq_false hno]
  have z2 : w.heap.size + 2 ≤ w2.heap.size := by have := b2.size; simpa using this
  have gA : w2.heap[w.heap.size]? = some (.cells #[.int .i64 cap, .slice (some ⟨b, off, none⟩) n c] 35 (0, 0)) := (b2.block _ (by simp only [World.size_alloc]; omega)).trans ((Below.heap_alloc _ _ _ (by simp)).trans (heap_alloc_new _ _))
  have gR : w2.heap[w.heap.size + 1]? = some (.cells #[.int .i64 0, .slice none 0 0] 35 (0, 0)) := (b2.block _ (by simp only [World.size_alloc]; omega)).trans (by have := heap_alloc_new (w.alloc (.cells #[.int .i64 cap, .slice (some ⟨b, off, none⟩) n c] 35)) (.cells #[.int .i64 0, .slice none 0 0] 35); rwa [World.size_alloc] at this)
  have qA0 := cell_of_row _ _ 0 _ _ _ gA
  have qA1 := cell_of_row _ _ 1 _ _ _ gA
  simp only [List.getElem?_toArray, List.getElem?_cons_zero, List.getElem?_cons_succ] at qA0 qA1
  have gAl : w.heap.size < w2.heap.size := by omega
  have h2 := (h.mono b1).mono b2
  have k2 := (hk.mono b1).mono b2
  have bt := below_then b1 b2
  obtain ⟨vals, vl, vc, v1, vk, hb⟩ := h2.vals hn0
  have hsrc : ∀ w' : World, Below w2.heap.size w2 w' → ∀ (j : Nat) (u : Value), vals[j]? = some u → w'.cell? ((⟨b, off, none⟩ : Addr).add j) = some u := fun w' hb' j u hj => by
    have := vc j u hj
    rw [Addr.add_lit] at this ⊢
    exact (hb'.cell (p := ⟨b, off + j, none⟩) hb).trans this
  obtain ⟨kv, hkv⟩ : ∃ kv, (key.map fun (n : Nat) => Value.int .u8 (n : Int)) = kv := ⟨_, rfl⟩
  have kvl : kv.length = yl := by rw [← hkv, List.length_map]; exact k2.len_eq
  have hkey : ∀ w' : World, Below w2.heap.size w2 w' → ∀ (j : Nat) (u : Value), kv[j]? = some u → w'.cell? ((⟨yb, yo, none⟩ : Addr).add j) = some u := fun w' hb' j u hj => (k2.mono hb').news _ rfl j u (by rw [hkv]; exact hj)
  have h2l := h2.len
  have gRl : w.heap.size + 1 < w2.heap.size := by omega
  have hAR : w.heap.size ≠ w.heap.size + 1 := by omega
  clear b1 b2 h hk
  go_upto_region 6 with fail
  refine wp_region_noPanic ?_
  refine wp_region_held_drew (S := fun w' => w'.cell? ⟨w.heap.size, 0, none⟩ = some (.int .i64 cap) ∧ w'.cell? ⟨w.heap.size, 1, none⟩ = some (.slice (some ⟨b, off, none⟩) n c)) (by kernel_rfl) ⟨qA0, qA1⟩ (fun hHeld => ?_)
  have BL := bel_drew (Below.refl w2.heap.size w2)
  refine wpAnyH_take (i := 0) (v := ?_) rfl (by kernel_rfl) (by kernel_rfl) (by kernel_rfl) (fun _ _ _ h => h) (Or.inl ⟨by rfl, ?_⟩) (by assumption) ?_
  rotate_left
  · (intro wq hSw; (try dsimp only at hSw); go_simp; try with_reducible rfl)
  try simp only [Act.put, List.setIfInBounds_toArray, List.set_cons_zero, List.set_cons_succ]
  refine wpAnyH_take (i := 1) (v := ?_) rfl (by kernel_rfl) (by kernel_rfl) (by kernel_rfl) (fun _ _ _ h => h) (Or.inl ⟨by rfl, ?_⟩) (by assumption) ?_
  rotate_left
  · (intro wq hSw; (try dsimp only at hSw); go_simp; try with_reducible rfl)
  try simp only [Act.put, List.setIfInBounds_toArray, List.set_cons_zero, List.set_cons_succ]
  refine wpAnyH_take (i := 3) (v := ?_) rfl (by kernel_rfl) (by kernel_rfl) (by kernel_rfl) (fun _ _ _ h => h) (Or.inl ⟨by rfl, ?_⟩) (by assumption) ?_
  rotate_left
  · (intro wq hSw; (try dsimp only at hSw); go_simp; try with_reducible rfl)
  try simp only [Act.put, List.setIfInBounds_toArray, List.set_cons_zero, List.set_cons_succ]
  refine wpAnyH_take (i := 4) (v := ?_) rfl (by kernel_rfl) (by kernel_rfl) (by kernel_rfl) (fun _ _ _ h => h) (Or.inl ⟨by rfl, ?_⟩) (by assumption) ?_
  rotate_left
  · (intro wq hSw; (try dsimp only at hSw); go_simp; try with_reducible rfl)
  try simp only [Act.put, List.setIfInBounds_toArray, List.set_cons_zero, List.set_cons_succ]
  refine wpAnyH_take (i := 7) (v := ?_) rfl (by kernel_rfl) (by kernel_rfl) (by kernel_rfl) (fun _ _ _ h => h) (Or.inl ⟨by rfl, ?_⟩) (by assumption) ?_
  rotate_left
  · (intro wq hSw; (try dsimp only at hSw); go_simp; try with_reducible rfl)
  try simp only [Act.put, List.setIfInBounds_toArray, List.set_cons_zero, List.set_cons_succ]
  refine wpAnyH_take (i := 12) (v := ?_) rfl (by kernel_rfl) (by kernel_rfl) (by kernel_rfl) (fun _ _ _ h => h) (Or.inl ⟨by rfl, ?_⟩) (by assumption) ?_
  rotate_left
  · (intro wq hSw; (try dsimp only at hSw); go_simp; try with_reducible rfl)
  try simp only [Act.put, List.setIfInBounds_toArray, List.set_cons_zero, List.set_cons_succ]
  refine wpAnyH_take (i := 13) (v := ?_) rfl (by kernel_rfl) (by kernel_rfl) (by kernel_rfl) (fun _ _ _ h => h) (Or.inl ⟨by rfl, ?_⟩) (by assumption) ?_
  rotate_left
  · (intro wq hSw; (try dsimp only at hSw); go_simp; try with_reducible rfl)
  try simp only [Act.put, List.setIfInBounds_toArray, List.set_cons_zero, List.set_cons_succ]
  refine wpAnyH_take (i := 14) (v := ?_) rfl (by kernel_rfl) (by kernel_rfl) (by kernel_rfl) (fun _ _ _ h => h) (Or.inl ⟨by rfl, ?_⟩) (by assumption) ?_
  rotate_left
  · (intro wq hSw; (try dsimp only at hSw); go_simp; try with_reducible rfl)
  try simp only [Act.put, List.setIfInBounds_toArray, List.set_cons_zero, List.set_cons_succ]
  refine wpAnyH_ready (rs := [2, 6]) (by kernel_rfl) (by simp) ?_
  refine AllReadyH.cons rfl (fun K hK => ?_) (AllReadyH.cons rfl (fun K hK => ?_) (AllReadyH.nil))
  · skip
    go_simp
    have BL := bel_alloc BL (.cells #[] 23)
    have r0 := (BL.cell (p := ⟨w.heap.size, 0, none⟩) gAl).trans qA0
    have r1 := (BL.cell (p := ⟨w.heap.size, 1, none⟩) gAl).trans qA1
    refine hK.out _ _ ⟨r0, r1⟩ (fun hHeld => ?_)
    clear hK K r0 r1
    try simp only [Act.put, List.setIfInBounds_toArray, List.set_cons_zero, List.set_cons_succ]
    refine wpAnyH_ready (rs := [5, 6]) (by kernel_rfl) (by simp) ?_
    refine AllReadyH.cons rfl (fun K hK => ?_) (AllReadyH.cons rfl (fun K hK => ?_) (AllReadyH.nil))
    · skip
      refine step_append_fresh rfl (.tmp 28) (.tmp 30) 22 23 rfl Try.underlying22 (.slice none 0 0) 24 Try.info_row rfl _ (by rfl) _ n c hn0 vals (by rfl) vl (hsrc _ BL) (by unfold maxLen; omega) (by omega) ?_
      intro v31 w31 O31 at31 BN
      change K (Act.put _ (some 31) v31) _
      have O31 := own_low O31 BL.size
      have BL := below_then BL BN
      have r0 := (BL.cell (p := ⟨w.heap.size, 0, none⟩) gAl).trans qA0
      have r1 := (BL.cell (p := ⟨w.heap.size, 1, none⟩) gAl).trans qA1
      refine hK.out _ _ ⟨r0, r1⟩ (fun hHeld => ?_)
      clear hK K r0 r1
      try simp only [Act.put, List.setIfInBounds_toArray, List.set_cons_zero, List.set_cons_succ]
      refine wpAnyH_ready (rs := [6]) (by kernel_rfl) (by simp) ?_
      refine AllReadyH.cons rfl (fun K hK => ?_) (AllReadyH.nil)
      go_simp
      have BL := bel_alloc BL (.cells #[] 5)
      have O31 := O31.alloc (.cells #[] 5)
      have r0 := (BL.cell (p := ⟨w.heap.size, 0, none⟩) gAl).trans qA0
      have r1 := (BL.cell (p := ⟨w.heap.size, 1, none⟩) gAl).trans qA1
      refine hK.out _ _ ⟨r0, r1⟩ (fun hHeld => ?_)
      clear hK K r0 r1
      try simp only [Act.put, List.setIfInBounds_toArray, List.set_cons_zero, List.set_cons_succ]
      refine wpAnyH_ready (rs := [8]) (by kernel_rfl) (by simp) ?_
      refine AllReadyH.cons rfl (fun K hK => ?_) (AllReadyH.nil)
      refine step_append_fresh rfl (.tmp 32) (.tmp 33) 23 5 rfl Try.underlying23 (.int .u8 0) 1 Try.info_u8 rfl _ (by rfl) _ yl yc hy0 kv (by rfl) kvl (hkey _ BL) (by unfold maxLen; omega) (by omega) ?_
      intro v34 w34 O34 at34 BN
      change K (Act.put _ (some 34) v34) _
      obtain ⟨a34, c34, rfl, _⟩ := own_slice O34
      have BL := below_then BL BN
      have O31 := O31.bel BN
      have r0 := (BL.cell (p := ⟨w.heap.size, 0, none⟩) gAl).trans qA0
      have r1 := (BL.cell (p := ⟨w.heap.size, 1, none⟩) gAl).trans qA1
      refine hK.out _ _ ⟨r0, r1⟩ (fun hHeld => ?_)
      clear hK K r0 r1
      try simp only [Act.put, List.setIfInBounds_toArray, List.set_cons_zero, List.set_cons_succ]
      refine wpAnyH_ready (rs := [9]) (by kernel_rfl) (by simp) ?_
      refine AllReadyH.cons rfl (fun K hK => ?_) (AllReadyH.nil)
      go_simp
      have C35 := cell_new_at _ (.slice a34 yl c34) 23 BL
      try simp only [World.size_alloc] at C35
      have BL := bel_alloc BL (.cells #[.slice a34 yl c34] 23)
      have O31 := O31.alloc (.cells #[.slice a34 yl c34] 23)
      have O34 := O34.alloc (.cells #[.slice a34 yl c34] 23)
      have r0 := (BL.cell (p := ⟨w.heap.size, 0, none⟩) gAl).trans qA0
      have r1 := (BL.cell (p := ⟨w.heap.size, 1, none⟩) gAl).trans qA1
      refine hK.out _ _ ⟨r0, r1⟩ (fun hHeld => ?_)
      clear hK K r0 r1
      try simp only [Act.put, List.setIfInBounds_toArray, List.set_cons_zero, List.set_cons_succ]
      refine wpAnyH_ready (rs := [10]) (by kernel_rfl) (by simp) ?_
      refine AllReadyH.cons rfl (fun K hK => ?_) (AllReadyH.nil)
      refine step_append_own rfl (.tmp 31) (.tmp 35) 22 23 rfl Try.underlying22 (.slice none 0 0) 24 Try.info_row rfl w2.heap.size v31 n vals (by rfl) O31 _ 1 1 [.slice a34 yl c34] (by rfl) rfl (one_cell C35) (fun u hu => by rw [List.mem_singleton.1 hu]; rfl) (by unfold maxLen; omega) (by omega) BL.size ?_
      intro v36 w36 O36 G36
      change K (Act.put _ (some 36) v36) _
      have O34 := O34.kept G36 (own_ne O34 O31 (by decide))
      have BL := BL.grown G36 BL.size (fun k hk => (O31.lt k hk).1)
      obtain ⟨g36, c36, rfl, hg36, hR⟩ := rows_snoc BL hkv k2 h2l (by omega) vk O34 O36
      have gR := (BL.block _ gRl).trans gR
      have k0 := cell_of_row _ _ 0 _ _ _ gR
      have k1 := cell_of_row _ _ 1 _ _ _ gR
      simp only [List.getElem?_toArray, List.getElem?_cons_zero, List.getElem?_cons_succ] at k0 k1
      have f0 := frozen_of_row w36 _ 0 _ _ gR
      have f1 := frozen_of_row w36 _ 1 _ _ gR
      have r0 := (BL.cell (p := ⟨w.heap.size, 0, none⟩) gAl).trans qA0
      have r1 := (BL.cell (p := ⟨w.heap.size, 1, none⟩) gAl).trans qA1
      refine hK.out _ _ ⟨r0, r1⟩ (fun hHeld => ?_)
      clear hK K
      try simp only [Act.put, List.setIfInBounds_toArray, List.set_cons_zero, List.set_cons_succ]
      refine wpAnyH_take (i := 11) (v := ?_) rfl (by kernel_rfl) (by kernel_rfl) (by kernel_rfl) (fun _ _ _ h => h) (Or.inl ⟨by rfl, ?_⟩) (by assumption) ?_
      rotate_left
      · (intro wq hSw; (try dsimp only at hSw); go_simp; try with_reducible rfl)
      try simp only [Act.put, List.setIfInBounds_toArray, List.set_cons_zero, List.set_cons_succ]
      refine wpAnyH_ready (rs := [15]) (by kernel_rfl) (by simp) ?_
      refine AllReadyH.cons rfl (fun K hK => ?_) (AllReadyH.nil)
      go_simp
      refine hK.out _ _ ⟨two_cell _ _ _ _ hAR r0, two_cell _ _ _ _ hAR r1⟩ (fun hHeld => ?_)
      clear hK K
      try simp only [Act.put, List.setIfInBounds_toArray, List.set_cons_zero, List.set_cons_succ]
      refine wpAnyH_take (i := 16) (v := ?_) rfl (by kernel_rfl) (by kernel_rfl) (by kernel_rfl) (fun _ _ _ h => h) (Or.inl ⟨by rfl, ?_⟩) (by assumption) ?_
      rotate_left
      · (intro wq hSw; (try dsimp only at hSw); go_simp; try with_reducible rfl)
      try simp only [Act.put, List.setIfInBounds_toArray, List.set_cons_zero, List.set_cons_succ]
      refine wpAnyH_take (i := 17) (v := ?_) rfl (by kernel_rfl) (by kernel_rfl) (by kernel_rfl) (fun _ _ _ h => h) (Or.inl ⟨by rfl, ?_⟩) (by assumption) ?_
      rotate_left
      · (intro wq hSw; (try dsimp only at hSw); go_simp; try with_reducible rfl)
      try simp only [Act.put, List.setIfInBounds_toArray, List.set_cons_zero, List.set_cons_succ]
      refine wpAnyH_take (i := 18) (v := ?_) rfl (by kernel_rfl) (by kernel_rfl) (by kernel_rfl) (fun _ _ _ h => h) (Or.inl ⟨by rfl, ?_⟩) (by assumption) ?_
      rotate_left
      · (intro wq hSw; (try dsimp only at hSw); go_simp; try with_reducible rfl)
      try simp only [Act.put, List.setIfInBounds_toArray, List.set_cons_zero, List.set_cons_succ]
      refine wpAnyH_done (by kernel_rfl) ?_ _
      refine NoPanic.normal ?_
      have gF := two_row w36 (w.heap.size + 1) (.int .i64 cap) (.slice (some ⟨g36, 0, none⟩) (n + 1) c36) gR
      have BF := (bt.trans (BL.mono (by omega))).setCell (p := ⟨w.heap.size + 1, 0, none⟩) (Nat.le_succ _) (.int .i64 cap) |>.setCell (p := ⟨w.heap.size + 1, 1, none⟩) (Nat.le_succ _) (.slice (some ⟨g36, 0, none⟩) (n + 1) c36)
      have q0 := cell_of_row _ _ 0 _ _ _ gF
      have q1 := cell_of_row _ _ 1 _ _ _ gF
      simp only [List.getElem?_toArray, List.getElem?_cons_zero, List.getElem?_cons_succ] at q0 q1
      have hRF : RowsK ((w36.setCell ⟨w.heap.size + 1, 0, none⟩ (.int .i64 cap)).setCell ⟨w.heap.size + 1, 1, none⟩ (.slice (some ⟨g36, 0, none⟩) (n + 1) c36)) (some ⟨g36, 0, none⟩) (n + 1) (ks ++ [key]) := hR.recd (by omega) (noU8_rec gR fun v hv m => by simp at hv; rcases hv with rfl | rfl <;> simp) (by simp [World.setCell]) (fun b hb => (Below.heap_setCell _ _ _ _ hb).trans (Below.heap_setCell _ _ _ _ hb))
      try simp only [List.getElem_toArray, List.getElem_cons_succ, List.getElem_cons_zero, Act.put, List.setIfInBounds_toArray, List.set_cons_zero, List.set_cons_succ]
      go_wp2_with fail
      exact bodyPost_ret (v := .tuple #[.agg #[.int .i64 cap, .slice (some ⟨g36, 0, none⟩) (n + 1) c36], .int .i64 (n : Nat), .bool true, .int .i64 0]) (by simp [results, Try.results15, go_sem, q0, q1]) rfl ⟨g36, c36, rfl, hRF, BF, by omega⟩
    · skip
      go_simp
      have BL := bel_alloc BL (.cells #[] 5)
      have r0 := (BL.cell (p := ⟨w.heap.size, 0, none⟩) gAl).trans qA0
      have r1 := (BL.cell (p := ⟨w.heap.size, 1, none⟩) gAl).trans qA1
      refine hK.out _ _ ⟨r0, r1⟩ (fun hHeld => ?_)
      clear hK K r0 r1
      try simp only [Act.put, List.setIfInBounds_toArray, List.set_cons_zero, List.set_cons_succ]
      refine wpAnyH_ready (rs := [5]) (by kernel_rfl) (by simp) ?_
      refine AllReadyH.cons rfl (fun K hK => ?_) (AllReadyH.nil)
      refine step_append_fresh rfl (.tmp 28) (.tmp 30) 22 23 rfl Try.underlying22 (.slice none 0 0) 24 Try.info_row rfl _ (by rfl) _ n c hn0 vals (by rfl) vl (hsrc _ BL) (by unfold maxLen; omega) (by omega) ?_
      intro v31 w31 O31 at31 BN
      change K (Act.put _ (some 31) v31) _
      have O31 := own_low O31 BL.size
      have BL := below_then BL BN
      have r0 := (BL.cell (p := ⟨w.heap.size, 0, none⟩) gAl).trans qA0
      have r1 := (BL.cell (p := ⟨w.heap.size, 1, none⟩) gAl).trans qA1
      refine hK.out _ _ ⟨r0, r1⟩ (fun hHeld => ?_)
      clear hK K r0 r1
      try simp only [Act.put, List.setIfInBounds_toArray, List.set_cons_zero, List.set_cons_succ]
      refine wpAnyH_ready (rs := [8]) (by kernel_rfl) (by simp) ?_
      refine AllReadyH.cons rfl (fun K hK => ?_) (AllReadyH.nil)
      refine step_append_fresh rfl (.tmp 32) (.tmp 33) 23 5 rfl Try.underlying23 (.int .u8 0) 1 Try.info_u8 rfl _ (by rfl) _ yl yc hy0 kv (by rfl) kvl (hkey _ BL) (by unfold maxLen; omega) (by omega) ?_
      intro v34 w34 O34 at34 BN
      change K (Act.put _ (some 34) v34) _
      obtain ⟨a34, c34, rfl, _⟩ := own_slice O34
      have BL := below_then BL BN
      have O31 := O31.bel BN
      have r0 := (BL.cell (p := ⟨w.heap.size, 0, none⟩) gAl).trans qA0
      have r1 := (BL.cell (p := ⟨w.heap.size, 1, none⟩) gAl).trans qA1
      refine hK.out _ _ ⟨r0, r1⟩ (fun hHeld => ?_)
      clear hK K r0 r1
      try simp only [Act.put, List.setIfInBounds_toArray, List.set_cons_zero, List.set_cons_succ]
      refine wpAnyH_ready (rs := [9]) (by kernel_rfl) (by simp) ?_
      refine AllReadyH.cons rfl (fun K hK => ?_) (AllReadyH.nil)
      go_simp
      have C35 := cell_new_at _ (.slice a34 yl c34) 23 BL
      try simp only [World.size_alloc] at C35
      have BL := bel_alloc BL (.cells #[.slice a34 yl c34] 23)
      have O31 := O31.alloc (.cells #[.slice a34 yl c34] 23)
      have O34 := O34.alloc (.cells #[.slice a34 yl c34] 23)
      have r0 := (BL.cell (p := ⟨w.heap.size, 0, none⟩) gAl).trans qA0
      have r1 := (BL.cell (p := ⟨w.heap.size, 1, none⟩) gAl).trans qA1
      refine hK.out _ _ ⟨r0, r1⟩ (fun hHeld => ?_)
      clear hK K r0 r1
      try simp only [Act.put, List.setIfInBounds_toArray, List.set_cons_zero, List.set_cons_succ]
      refine wpAnyH_ready (rs := [10]) (by kernel_rfl) (by simp) ?_
      refine AllReadyH.cons rfl (fun K hK => ?_) (AllReadyH.nil)
      refine step_append_own rfl (.tmp 31) (.tmp 35) 22 23 rfl Try.underlying22 (.slice none 0 0) 24 Try.info_row rfl w2.heap.size v31 n vals (by rfl) O31 _ 1 1 [.slice a34 yl c34] (by rfl) rfl (one_cell C35) (fun u hu => by rw [List.mem_singleton.1 hu]; rfl) (by unfold maxLen; omega) (by omega) BL.size ?_
      intro v36 w36 O36 G36
      change K (Act.put _ (some 36) v36) _
      have O34 := O34.kept G36 (own_ne O34 O31 (by decide))
      have BL := BL.grown G36 BL.size (fun k hk => (O31.lt k hk).1)
      obtain ⟨g36, c36, rfl, hg36, hR⟩ := rows_snoc BL hkv k2 h2l (by omega) vk O34 O36
      have gR := (BL.block _ gRl).trans gR
      have k0 := cell_of_row _ _ 0 _ _ _ gR
      have k1 := cell_of_row _ _ 1 _ _ _ gR
      simp only [List.getElem?_toArray, List.getElem?_cons_zero, List.getElem?_cons_succ] at k0 k1
      have f0 := frozen_of_row w36 _ 0 _ _ gR
      have f1 := frozen_of_row w36 _ 1 _ _ gR
      have r0 := (BL.cell (p := ⟨w.heap.size, 0, none⟩) gAl).trans qA0
      have r1 := (BL.cell (p := ⟨w.heap.size, 1, none⟩) gAl).trans qA1
      refine hK.out _ _ ⟨r0, r1⟩ (fun hHeld => ?_)
      clear hK K
      try simp only [Act.put, List.setIfInBounds_toArray, List.set_cons_zero, List.set_cons_succ]
      refine wpAnyH_take (i := 11) (v := ?_) rfl (by kernel_rfl) (by kernel_rfl) (by kernel_rfl) (fun _ _ _ h => h) (Or.inl ⟨by rfl, ?_⟩) (by assumption) ?_
      rotate_left
      · (intro wq hSw; (try dsimp only at hSw); go_simp; try with_reducible rfl)
      try simp only [Act.put, List.setIfInBounds_toArray, List.set_cons_zero, List.set_cons_succ]
      refine wpAnyH_ready (rs := [15]) (by kernel_rfl) (by simp) ?_
      refine AllReadyH.cons rfl (fun K hK => ?_) (AllReadyH.nil)
      go_simp
      refine hK.out _ _ ⟨two_cell _ _ _ _ hAR r0, two_cell _ _ _ _ hAR r1⟩ (fun hHeld => ?_)
      clear hK K
      try simp only [Act.put, List.setIfInBounds_toArray, List.set_cons_zero, List.set_cons_succ]
      refine wpAnyH_take (i := 16) (v := ?_) rfl (by kernel_rfl) (by kernel_rfl) (by kernel_rfl) (fun _ _ _ h => h) (Or.inl ⟨by rfl, ?_⟩) (by assumption) ?_
      rotate_left
      · (intro wq hSw; (try dsimp only at hSw); go_simp; try with_reducible rfl)
      try simp only [Act.put, List.setIfInBounds_toArray, List.set_cons_zero, List.set_cons_succ]
      refine wpAnyH_take (i := 17) (v := ?_) rfl (by kernel_rfl) (by kernel_rfl) (by kernel_rfl) (fun _ _ _ h => h) (Or.inl ⟨by rfl, ?_⟩) (by assumption) ?_
      rotate_left
      · (intro wq hSw; (try dsimp only at hSw); go_simp; try with_reducible rfl)
      try simp only [Act.put, List.setIfInBounds_toArray, List.set_cons_zero, List.set_cons_succ]
      refine wpAnyH_take (i := 18) (v := ?_) rfl (by kernel_rfl) (by kernel_rfl) (by kernel_rfl) (fun _ _ _ h => h) (Or.inl ⟨by rfl, ?_⟩) (by assumption) ?_
      rotate_left
      · (intro wq hSw; (try dsimp only at hSw); go_simp; try with_reducible rfl)
      try simp only [Act.put, List.setIfInBounds_toArray, List.set_cons_zero, List.set_cons_succ]
      refine wpAnyH_done (by kernel_rfl) ?_ _
      refine NoPanic.normal ?_
      have gF := two_row w36 (w.heap.size + 1) (.int .i64 cap) (.slice (some ⟨g36, 0, none⟩) (n + 1) c36) gR
      have BF := (bt.trans (BL.mono (by omega))).setCell (p := ⟨w.heap.size + 1, 0, none⟩) (Nat.le_succ _) (.int .i64 cap) |>.setCell (p := ⟨w.heap.size + 1, 1, none⟩) (Nat.le_succ _) (.slice (some ⟨g36, 0, none⟩) (n + 1) c36)
      have q0 := cell_of_row _ _ 0 _ _ _ gF
      have q1 := cell_of_row _ _ 1 _ _ _ gF
      simp only [List.getElem?_toArray, List.getElem?_cons_zero, List.getElem?_cons_succ] at q0 q1
      have hRF : RowsK ((w36.setCell ⟨w.heap.size + 1, 0, none⟩ (.int .i64 cap)).setCell ⟨w.heap.size + 1, 1, none⟩ (.slice (some ⟨g36, 0, none⟩) (n + 1) c36)) (some ⟨g36, 0, none⟩) (n + 1) (ks ++ [key]) := hR.recd (by omega) (noU8_rec gR fun v hv m => by simp at hv; rcases hv with rfl | rfl <;> simp) (by simp [World.setCell]) (fun b hb => (Below.heap_setCell _ _ _ _ hb).trans (Below.heap_setCell _ _ _ _ hb))
      try simp only [List.getElem_toArray, List.getElem_cons_succ, List.getElem_cons_zero, Act.put, List.setIfInBounds_toArray, List.set_cons_zero, List.set_cons_succ]
      go_wp2_with fail
      exact bodyPost_ret (v := .tuple #[.agg #[.int .i64 cap, .slice (some ⟨g36, 0, none⟩) (n + 1) c36], .int .i64 (n : Nat), .bool true, .int .i64 0]) (by simp [results, Try.results15, go_sem, q0, q1]) rfl ⟨g36, c36, rfl, hRF, BF, by omega⟩
  · skip
    go_simp
    have BL := bel_alloc BL (.cells #[] 5)
    have r0 := (BL.cell (p := ⟨w.heap.size, 0, none⟩) gAl).trans qA0
    have r1 := (BL.cell (p := ⟨w.heap.size, 1, none⟩) gAl).trans qA1
    refine hK.out _ _ ⟨r0, r1⟩ (fun hHeld => ?_)
    clear hK K r0 r1
    try simp only [Act.put, List.setIfInBounds_toArray, List.set_cons_zero, List.set_cons_succ]
    refine wpAnyH_ready (rs := [2]) (by kernel_rfl) (by simp) ?_
    refine AllReadyH.cons rfl (fun K hK => ?_) (AllReadyH.nil)
    go_simp
    have BL := bel_alloc BL (.cells #[] 23)
    have r0 := (BL.cell (p := ⟨w.heap.size, 0, none⟩) gAl).trans qA0
    have r1 := (BL.cell (p := ⟨w.heap.size, 1, none⟩) gAl).trans qA1
    refine hK.out _ _ ⟨r0, r1⟩ (fun hHeld => ?_)
    clear hK K r0 r1
    try simp only [Act.put, List.setIfInBounds_toArray, List.set_cons_zero, List.set_cons_succ]
    refine wpAnyH_ready (rs := [5]) (by kernel_rfl) (by simp) ?_
    refine AllReadyH.cons rfl (fun K hK => ?_) (AllReadyH.nil)
    refine step_append_fresh rfl (.tmp 28) (.tmp 30) 22 23 rfl Try.underlying22 (.slice none 0 0) 24 Try.info_row rfl _ (by rfl) _ n c hn0 vals (by rfl) vl (hsrc _ BL) (by unfold maxLen; omega) (by omega) ?_
    intro v31 w31 O31 at31 BN
    change K (Act.put _ (some 31) v31) _
    have O31 := own_low O31 BL.size
    have BL := below_then BL BN
    have r0 := (BL.cell (p := ⟨w.heap.size, 0, none⟩) gAl).trans qA0
    have r1 := (BL.cell (p := ⟨w.heap.size, 1, none⟩) gAl).trans qA1
    refine hK.out _ _ ⟨r0, r1⟩ (fun hHeld => ?_)
    clear hK K r0 r1
    try simp only [Act.put, List.setIfInBounds_toArray, List.set_cons_zero, List.set_cons_succ]
    refine wpAnyH_ready (rs := [8]) (by kernel_rfl) (by simp) ?_
    refine AllReadyH.cons rfl (fun K hK => ?_) (AllReadyH.nil)
    refine step_append_fresh rfl (.tmp 32) (.tmp 33) 23 5 rfl Try.underlying23 (.int .u8 0) 1 Try.info_u8 rfl _ (by rfl) _ yl yc hy0 kv (by rfl) kvl (hkey _ BL) (by unfold maxLen; omega) (by omega) ?_
    intro v34 w34 O34 at34 BN
    change K (Act.put _ (some 34) v34) _
    obtain ⟨a34, c34, rfl, _⟩ := own_slice O34
    have BL := below_then BL BN
    have O31 := O31.bel BN
    have r0 := (BL.cell (p := ⟨w.heap.size, 0, none⟩) gAl).trans qA0
    have r1 := (BL.cell (p := ⟨w.heap.size, 1, none⟩) gAl).trans qA1
    refine hK.out _ _ ⟨r0, r1⟩ (fun hHeld => ?_)
    clear hK K r0 r1
    try simp only [Act.put, List.setIfInBounds_toArray, List.set_cons_zero, List.set_cons_succ]
    refine wpAnyH_ready (rs := [9]) (by kernel_rfl) (by simp) ?_
    refine AllReadyH.cons rfl (fun K hK => ?_) (AllReadyH.nil)
    go_simp
    have C35 := cell_new_at _ (.slice a34 yl c34) 23 BL
    try simp only [World.size_alloc] at C35
    have BL := bel_alloc BL (.cells #[.slice a34 yl c34] 23)
    have O31 := O31.alloc (.cells #[.slice a34 yl c34] 23)
    have O34 := O34.alloc (.cells #[.slice a34 yl c34] 23)
    have r0 := (BL.cell (p := ⟨w.heap.size, 0, none⟩) gAl).trans qA0
    have r1 := (BL.cell (p := ⟨w.heap.size, 1, none⟩) gAl).trans qA1
    refine hK.out _ _ ⟨r0, r1⟩ (fun hHeld => ?_)
    clear hK K r0 r1
    try simp only [Act.put, List.setIfInBounds_toArray, List.set_cons_zero, List.set_cons_succ]
    refine wpAnyH_ready (rs := [10]) (by kernel_rfl) (by simp) ?_
    refine AllReadyH.cons rfl (fun K hK => ?_) (AllReadyH.nil)
    refine step_append_own rfl (.tmp 31) (.tmp 35) 22 23 rfl Try.underlying22 (.slice none 0 0) 24 Try.info_row rfl w2.heap.size v31 n vals (by rfl) O31 _ 1 1 [.slice a34 yl c34] (by rfl) rfl (one_cell C35) (fun u hu => by rw [List.mem_singleton.1 hu]; rfl) (by unfold maxLen; omega) (by omega) BL.size ?_
    intro v36 w36 O36 G36
    change K (Act.put _ (some 36) v36) _
    have O34 := O34.kept G36 (own_ne O34 O31 (by decide))
    have BL := BL.grown G36 BL.size (fun k hk => (O31.lt k hk).1)
    obtain ⟨g36, c36, rfl, hg36, hR⟩ := rows_snoc BL hkv k2 h2l (by omega) vk O34 O36
    have gR := (BL.block _ gRl).trans gR
    have k0 := cell_of_row _ _ 0 _ _ _ gR
    have k1 := cell_of_row _ _ 1 _ _ _ gR
    simp only [List.getElem?_toArray, List.getElem?_cons_zero, List.getElem?_cons_succ] at k0 k1
    have f0 := frozen_of_row w36 _ 0 _ _ gR
    have f1 := frozen_of_row w36 _ 1 _ _ gR
    have r0 := (BL.cell (p := ⟨w.heap.size, 0, none⟩) gAl).trans qA0
    have r1 := (BL.cell (p := ⟨w.heap.size, 1, none⟩) gAl).trans qA1
    refine hK.out _ _ ⟨r0, r1⟩ (fun hHeld => ?_)
    clear hK K
    try simp only [Act.put, List.setIfInBounds_toArray, List.set_cons_zero, List.set_cons_succ]
    refine wpAnyH_take (i := 11) (v := ?_) rfl (by kernel_rfl) (by kernel_rfl) (by kernel_rfl) (fun _ _ _ h => h) (Or.inl ⟨by rfl, ?_⟩) (by assumption) ?_
    rotate_left
    · (intro wq hSw; (try dsimp only at hSw); go_simp; try with_reducible rfl)
    try simp only [Act.put, List.setIfInBounds_toArray, List.set_cons_zero, List.set_cons_succ]
    refine wpAnyH_ready (rs := [15]) (by kernel_rfl) (by simp) ?_
    refine AllReadyH.cons rfl (fun K hK => ?_) (AllReadyH.nil)
    go_simp
    refine hK.out _ _ ⟨two_cell _ _ _ _ hAR r0, two_cell _ _ _ _ hAR r1⟩ (fun hHeld => ?_)
    clear hK K
    try simp only [Act.put, List.setIfInBounds_toArray, List.set_cons_zero, List.set_cons_succ]
    refine wpAnyH_take (i := 16) (v := ?_) rfl (by kernel_rfl) (by kernel_rfl) (by kernel_rfl) (fun _ _ _ h => h) (Or.inl ⟨by rfl, ?_⟩) (by assumption) ?_
    rotate_left
    · (intro wq hSw; (try dsimp only at hSw); go_simp; try with_reducible rfl)
    try simp only [Act.put, List.setIfInBounds_toArray, List.set_cons_zero, List.set_cons_succ]
    refine wpAnyH_take (i := 17) (v := ?_) rfl (by kernel_rfl) (by kernel_rfl) (by kernel_rfl) (fun _ _ _ h => h) (Or.inl ⟨by rfl, ?_⟩) (by assumption) ?_
    rotate_left
    · (intro wq hSw; (try dsimp only at hSw); go_simp; try with_reducible rfl)
    try simp only [Act.put, List.setIfInBounds_toArray, List.set_cons_zero, List.set_cons_succ]
    refine wpAnyH_take (i := 18) (v := ?_) rfl (by kernel_rfl) (by kernel_rfl) (by kernel_rfl) (fun _ _ _ h => h) (Or.inl ⟨by rfl, ?_⟩) (by assumption) ?_
    rotate_left
    · (intro wq hSw; (try dsimp only at hSw); go_simp; try with_reducible rfl)
    try simp only [Act.put, List.setIfInBounds_toArray, List.set_cons_zero, List.set_cons_succ]
    refine wpAnyH_done (by kernel_rfl) ?_ _
    refine NoPanic.normal ?_
    have gF := two_row w36 (w.heap.size + 1) (.int .i64 cap) (.slice (some ⟨g36, 0, none⟩) (n + 1) c36) gR
    have BF := (bt.trans (BL.mono (by omega))).setCell (p := ⟨w.heap.size + 1, 0, none⟩) (Nat.le_succ _) (.int .i64 cap) |>.setCell (p := ⟨w.heap.size + 1, 1, none⟩) (Nat.le_succ _) (.slice (some ⟨g36, 0, none⟩) (n + 1) c36)
    have q0 := cell_of_row _ _ 0 _ _ _ gF
    have q1 := cell_of_row _ _ 1 _ _ _ gF
    simp only [List.getElem?_toArray, List.getElem?_cons_zero, List.getElem?_cons_succ] at q0 q1
    have hRF : RowsK ((w36.setCell ⟨w.heap.size + 1, 0, none⟩ (.int .i64 cap)).setCell ⟨w.heap.size + 1, 1, none⟩ (.slice (some ⟨g36, 0, none⟩) (n + 1) c36)) (some ⟨g36, 0, none⟩) (n + 1) (ks ++ [key]) := hR.recd (by omega) (noU8_rec gR fun v hv m => by simp at hv; rcases hv with rfl | rfl <;> simp) (by simp [World.setCell]) (fun b hb => (Below.heap_setCell _ _ _ _ hb).trans (Below.heap_setCell _ _ _ _ hb))
    try simp only [List.getElem_toArray, List.getElem_cons_succ, List.getElem_cons_zero, Act.put, List.setIfInBounds_toArray, List.set_cons_zero, List.set_cons_succ]
    go_wp2_with fail
    exact bodyPost_ret (v := .tuple #[.agg #[.int .i64 cap, .slice (some ⟨g36, 0, none⟩) (n + 1) c36], .int .i64 (n : Nat), .bool true, .int .i64 0]) (by simp [results, Try.results15, go_sem, q0, q1]) rfl ⟨g36, c36, rfl, hRF, BF, by omega⟩
end Go.Proofs.Ytkklciecdhbleaa
