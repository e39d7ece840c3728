/- The document's store: Insert. -/
import Derived.Test.YtcnpomejdnpegaaBlurRef3
namespace Go.Proofs.Ytcnpomejdnpegaa
open Go.RowKit
set_option linter.unusedVariables false
theorem heap2a (w : World) (a b : Obj) : ((w.alloc a).alloc b).heap[w.heap.size]? = some a := by
  have h := heap_alloc_new w a
  have := ((Below.refl (w.alloc a).heap.size (w.alloc a)).alloc (Nat.le_refl _) b).block w.heap.size (by simp)
  exact this.trans h
theorem heap2b (w : World) (a b : Obj) : ((w.alloc a).alloc b).heap[w.heap.size + 1]? = some b := by
  have := heap_alloc_new (w.alloc a) b
  rwa [World.size_alloc] at this
set_option maxRecDepth 100000 in
set_option maxHeartbeats 4000000 in
theorem refInsert_any (w : World) (m k seed : Nat) (v : Value) (on0 on1 on2 : List Nat) (ka : Option Addr) (kl kc : Nat) (key : List Nat) (hb : RefAt w m k seed v on0 on1 on2) (hk : BytesAt w ka kl kc key) (hl : on0.length ≤ 500000) :
    Calls Try.prog 12 #[v, .slice ka kl kc] w fun e w' => (∃ v', e = .returned (.tuple #[v', .bool (!((placesN key seed m k).all (fun p => decide (p ∈ on0))))]) ∧ RefAt w' m k seed v' (withV on0 (placesN key seed m k)) on1 on2 ∧ (∀ Q : Nat → Prop, (∀ b, w.heap.size ≤ b → Q b) → OffAt Q v → OffAt Q v')) ∧ Below w.heap.size w w' := by
  have m1 := hb.m1
  have m2 := hb.m2
  have k1 := hb.k1
  have k2 := hb.k2
  have sd := hb.sd
  obtain ⟨a0, a1, a2, n0, n1, n2, c0, c1, c2, rfl, h0, h1, h2⟩ := hb.val
  have hn0 := h0.len_eq
  have bA : ∀ o o' : Obj, Below w.heap.size w ((w.alloc o).alloc o') := fun o o' => ((Below.refl _ _).alloc (Nat.le_refl _) _).alloc (by simp) _
  have hF := fun (w' : World) (h : Below w.heap.size w w') => refMember_any w' m k seed _ on0 on1 on2 ka kl kc key (hb.mono h) (hk.mono h)
  obtain ⟨ps, hps⟩ : ∃ ps, placesN key seed m k = ps := ⟨_, rfl⟩
  have hP := fun (w' : World) (h : Below w.heap.size w w') => refPlacesN w' ka kl kc key seed m k sd m2 k1 k2 (hk.mono h)
  rw [hps] at hP hF ⊢
  obtain ⟨T, hT⟩ : ∃ T, ps.all (fun p => decide (p ∈ on0)) = T := ⟨_, rfl⟩
  rw [hT] at hF ⊢
  have hW := fun (w' : World) (h : Below w.heap.size w w') (pa : Option Addr) (pc : Nat) (hp : NatsAt w' pa k pc ps) => with_any w' a0 n0 c0 on0 pa k pc ps (h0.mono h) hp (by omega)
  clear hps hT hb hn0 hl
  go_enter Try.func12, Try.ntmps12
  go_wp2_with fail
  refine (hF _ (bA _ _)).mono ?_
  rintro e w1 ⟨rfl, b1⟩
  have t6 := (below_then (bA _ _) b1).drew
  have gx : w1.heap[w.heap.size]? = some (.cells #[.int .i64 (m : Nat), .int .i64 (k : Nat), .int .u64 (seed : Nat), .slice a0 n0 c0, .slice a1 n1 c1, .slice a2 n2 c2] 38 (0, 0)) := (b1.block w.heap.size (by simp; omega)).trans (heap2a w _ _)
  have gr : w1.heap[w.heap.size + 1]? = some (.cells #[.int .i64 0, .int .i64 0, .int .u64 0, .slice none 0 0, .slice none 0 0, .slice none 0 0] 38 (0, 0)) := (b1.block (w.heap.size + 1) (by simp)).trans (heap2b w _ _)
  have z1 : w.heap.size + 1 < w1.drew.heap.size := Nat.lt_of_lt_of_le (by simp) b1.size
  have x0 : w1.drew.cell? ⟨w.heap.size, 0, none⟩ = some (.int .i64 (m : Nat)) := cell_of_row w1 _ 0 _ _ _ gx
  have x1 : w1.drew.cell? ⟨w.heap.size, 1, none⟩ = some (.int .i64 (k : Nat)) := cell_of_row w1 _ 1 _ _ _ gx
  have x2 : w1.drew.cell? ⟨w.heap.size, 2, none⟩ = some (.int .u64 (seed : Nat)) := cell_of_row w1 _ 2 _ _ _ gx
  have x3 : w1.drew.cell? ⟨w.heap.size, 3, none⟩ = some (.slice a0 n0 c0) := cell_of_row w1 _ 3 _ _ _ gx
  have xf : w1.drew.frozen? ⟨w.heap.size, 3, none⟩ = false := frozen_of_row w1 _ 3 _ _ gx
  clear hF
  go_wp2_with fail
  -- REGION
  refine wp_region_noPanic ?_
  refine wp_region_held_drew (S := fun w' => w'.cell? ⟨w.heap.size, 0, none⟩ = some (.int .i64 (m : Nat)) ∧ w'.cell? ⟨w.heap.size, 1, none⟩ = some (.int .i64 (k : Nat)) ∧ w'.cell? ⟨w.heap.size, 2, none⟩ = some (.int .u64 (seed : Nat))) (by kernel_rfl) ⟨x0, x1, x2⟩ (fun hHeld => ?_)
  refine wpAnyH_take (i := 0) (v := ?_) rfl (by kernel_rfl) (by kernel_rfl) (by kernel_rfl) (fun _ _ _ h => h) (Or.inl ⟨by rfl, ?_⟩) (by assumption) ?_
  rotate_left
  · (intro wq hSw; (try dsimp only at hSw); go_simp; try with_reducible rfl)
  try simp only [Act.put, List.setIfInBounds_toArray, List.set_cons_zero, List.set_cons_succ]
  refine wpAnyH_take (i := 1) (v := ?_) rfl (by kernel_rfl) (by kernel_rfl) (by kernel_rfl) (fun _ _ _ h => h) (Or.inl ⟨by rfl, ?_⟩) (by assumption) ?_
  rotate_left
  · (intro wq hSw; (try dsimp only at hSw); go_simp; try with_reducible rfl)
  try simp only [Act.put, List.setIfInBounds_toArray, List.set_cons_zero, List.set_cons_succ]
  refine wpAnyH_take (i := 3) (v := ?_) rfl (by kernel_rfl) (by kernel_rfl) (by kernel_rfl) (fun _ _ _ h => h) (Or.inl ⟨by rfl, ?_⟩) (by assumption) ?_
  rotate_left
  · (intro wq hSw; (try dsimp only at hSw); go_simp; try with_reducible rfl)
  try simp only [Act.put, List.setIfInBounds_toArray, List.set_cons_zero, List.set_cons_succ]
  refine wpAnyH_take (i := 4) (v := ?_) rfl (by kernel_rfl) (by kernel_rfl) (by kernel_rfl) (fun _ _ _ h => h) (Or.inl ⟨by rfl, ?_⟩) (by assumption) ?_
  rotate_left
  · (intro wq hSw; (try dsimp only at hSw); go_simp; try with_reducible rfl)
  try simp only [Act.put, List.setIfInBounds_toArray, List.set_cons_zero, List.set_cons_succ]
  refine wpAnyH_take (i := 5) (v := ?_) rfl (by kernel_rfl) (by kernel_rfl) (by kernel_rfl) (fun _ _ _ h => h) (Or.inl ⟨by rfl, ?_⟩) (by assumption) ?_
  rotate_left
  · (intro wq hSw; (try dsimp only at hSw); go_simp; try with_reducible rfl)
  try simp only [Act.put, List.setIfInBounds_toArray, List.set_cons_zero, List.set_cons_succ]
  refine wpAnyH_take (i := 6) (v := ?_) rfl (by kernel_rfl) (by kernel_rfl) (by kernel_rfl) (fun _ _ _ h => h) (Or.inl ⟨by rfl, ?_⟩) (by assumption) ?_
  rotate_left
  · (intro wq hSw; (try dsimp only at hSw); go_simp; try with_reducible rfl)
  try simp only [Act.put, List.setIfInBounds_toArray, List.set_cons_zero, List.set_cons_succ]
  refine wpAnyH_take (i := 7) (v := ?_) rfl (by kernel_rfl) (by kernel_rfl) (by kernel_rfl) (fun _ _ _ h => h) (Or.inl ⟨by rfl, ?_⟩) (by assumption) ?_
  rotate_left
  · (intro wq hSw; (try dsimp only at hSw); go_simp; try with_reducible rfl)
  try simp only [Act.put, List.setIfInBounds_toArray, List.set_cons_zero, List.set_cons_succ]
  refine wpAnyH_take (i := 8) (v := ?_) rfl (by kernel_rfl) (by kernel_rfl) (by kernel_rfl) (fun _ _ _ h => h) (Or.inl ⟨by rfl, ?_⟩) (by assumption) ?_
  rotate_left
  · (intro wq hSw; (try dsimp only at hSw); go_simp; try with_reducible rfl)
  try simp only [Act.put, List.setIfInBounds_toArray, List.set_cons_zero, List.set_cons_succ]
  refine wpAnyH_take (i := 9) (v := ?_) rfl (by kernel_rfl) (by kernel_rfl) (by kernel_rfl) (fun _ _ _ h => h) (Or.inl ⟨by rfl, ?_⟩) (by assumption) ?_
  rotate_left
  · (intro wq hSw; (try dsimp only at hSw); go_simp; try with_reducible rfl)
  try simp only [Act.put, List.setIfInBounds_toArray, List.set_cons_zero, List.set_cons_succ]
  refine wpAnyH_take (i := 12) (v := ?_) rfl (by kernel_rfl) (by kernel_rfl) (by kernel_rfl) (fun _ _ _ h => h) (Or.inl ⟨by rfl, ?_⟩) (by assumption) ?_
  rotate_left
  · (intro wq hSw; (try dsimp only at hSw); go_simp; try with_reducible rfl)
  try simp only [Act.put, List.setIfInBounds_toArray, List.set_cons_zero, List.set_cons_succ]
  refine wpAnyH_ready (rs := [2, 10]) (by kernel_rfl) (by simp) ?_
  refine AllReadyH.cons rfl (fun K hK => ?_) (AllReadyH.cons rfl (fun K hK => ?_) (AllReadyH.nil))
  · go_simp
    refine hK.out _ _ (⟨x0, x1, x2⟩) (fun hHeld => ?_)
    clear hK K
    try simp only [Act.put, List.setIfInBounds_toArray, List.set_cons_zero, List.set_cons_succ]
    refine wpAnyH_ready (rs := [10]) (by kernel_rfl) (by simp) ?_
    refine AllReadyH.cons rfl (fun K hK => ?_) (AllReadyH.nil)
    go_simp
    refine (hP _ t6).mono ?_
    rintro e wt ⟨pa, pc, rfl, hip, bt⟩
    have zb : w.heap.size < w1.drew.heap.size := Nat.lt_of_succ_lt z1
    have t0 : wt.cell? ⟨w.heap.size, 0, none⟩ = some (.int .i64 (m : Nat)) := (bt.cell (p := ⟨w.heap.size, 0, none⟩) zb).trans x0
    have t1 : wt.cell? ⟨w.heap.size, 1, none⟩ = some (.int .i64 (k : Nat)) := (bt.cell (p := ⟨w.heap.size, 1, none⟩) zb).trans x1
    have t2 : wt.cell? ⟨w.heap.size, 2, none⟩ = some (.int .u64 (seed : Nat)) := (bt.cell (p := ⟨w.heap.size, 2, none⟩) zb).trans x2
    have t3 : wt.cell? ⟨w.heap.size, 3, none⟩ = some (.slice a0 n0 c0) := (bt.cell (p := ⟨w.heap.size, 3, none⟩) zb).trans x3
    have tg := (bt.block w.heap.size zb).trans gx
    have tr := (bt.block (w.heap.size + 1) z1).trans gr
    have zt : w.heap.size + 1 < wt.heap.size := Nat.lt_of_lt_of_le z1 bt.size
    have bw := below_then t6 bt
    go_wp2_with fail
    refine hK.out _ _ (⟨t0, t1, t2⟩) (fun hHeld => ?_)
    clear hK K
    try simp only [Act.put, List.setIfInBounds_toArray, List.set_cons_zero, List.set_cons_succ]
    refine wpAnyH_ready (rs := [11]) (by kernel_rfl) (by simp) ?_
    refine AllReadyH.cons rfl (fun K hK => ?_) (AllReadyH.nil)
    go_simp
    refine (hW _ bw _ _ hip).mono ?_
    rintro e ws ⟨wa, wn, wcp, rfl, hws, bs, wfr⟩
    have sg := (bs.block w.heap.size (Nat.lt_of_succ_lt zt)).trans tg
    have sr := (bs.block (w.heap.size + 1) zt).trans tr
    have sf := frozen_of_row ws _ 3 _ _ sg
    have bsw := below_then bw bs
    have s0 : ws.cell? ⟨w.heap.size, 0, none⟩ = some (.int .i64 (m : Nat)) := (bs.cell (p := ⟨w.heap.size, 0, none⟩) (Nat.lt_of_succ_lt zt)).trans t0
    have s1 : ws.cell? ⟨w.heap.size, 1, none⟩ = some (.int .i64 (k : Nat)) := (bs.cell (p := ⟨w.heap.size, 1, none⟩) (Nat.lt_of_succ_lt zt)).trans t1
    have s2 : ws.cell? ⟨w.heap.size, 2, none⟩ = some (.int .u64 (seed : Nat)) := (bs.cell (p := ⟨w.heap.size, 2, none⟩) (Nat.lt_of_succ_lt zt)).trans t2
    have s3 : ws.cell? ⟨w.heap.size, 3, none⟩ = some (.slice a0 n0 c0) := (bs.cell (p := ⟨w.heap.size, 3, none⟩) (Nat.lt_of_succ_lt zt)).trans t3
    go_wp2_with fail
    refine hK.out _ _ (⟨s0, s1, s2⟩) (fun hHeld => ?_)
    clear hK K
    try simp only [Act.put, List.setIfInBounds_toArray, List.set_cons_zero, List.set_cons_succ]
    refine wpAnyH_take (i := 13) (v := ?_) rfl (by kernel_rfl) (by kernel_rfl) (by kernel_rfl) (fun _ _ _ h => h) (Or.inl ⟨by rfl, ?_⟩) (by assumption) ?_
    rotate_left
    · (intro wq hSw; (try dsimp only at hSw); go_simp; try with_reducible rfl)
    try simp only [Act.put, List.setIfInBounds_toArray, List.set_cons_zero, List.set_cons_succ]
    refine wpAnyH_ready (rs := [14]) (by kernel_rfl) (by simp) ?_
    refine AllReadyH.cons rfl (fun K hK => ?_) (AllReadyH.nil)
    go_simp
    refine hK.out _ _ (by have hq := Joins.block_setCell (i := 3) sg (.slice wa wn wcp); exact ⟨cell_of_row _ _ 0 _ _ _ hq, cell_of_row _ _ 1 _ _ _ hq, cell_of_row _ _ 2 _ _ _ hq⟩) (fun hHeld => ?_)
    clear hK K
    try simp only [Act.put, List.setIfInBounds_toArray, List.set_cons_zero, List.set_cons_succ]
    refine wpAnyH_done (by kernel_rfl) ?_ _
    refine NoPanic.normal ?_
    have sg3 := Joins.block_setCell (i := 3) sg (.slice wa wn wcp)
    have sr3 : (ws.setCell ⟨w.heap.size, 3, none⟩ (.slice wa wn wcp)).heap[w.heap.size + 1]? = some (.cells #[.int .i64 0, .int .i64 0, .int .u64 0, .slice none 0 0, .slice none 0 0, .slice none 0 0] 38 (0, 0)) := (Below.heap_setCell _ _ _ _ (by show w.heap.size + 1 ≠ w.heap.size; omega)).trans sr
    have b3 := bsw.setCell (Nat.le_refl _) (p := ⟨w.heap.size, 3, none⟩) (.slice wa wn wcp)
    go_wp2_with (first | (refine wpList_load_row rfl 38 _ rfl w.heap.size rfl 38 _ _ _ sg3 Try.underlying38 rfl (by kernel_rfl) ?_) | (refine store_rec rfl 38 (.tmp 4) (.tmp 24) rfl (w.heap.size + 1) #[.int .i64 (m : Nat), .int .i64 (k : Nat), .int .u64 (seed : Nat), .slice wa wn wcp, .slice a1 n1 c1, .slice a2 n2 c2] rfl rfl 38 _ sr3 (by kernel_rfl) rfl (by simp [Value.oneCell']) ?_; intro w6 g6 z6 o6 b6))
    have q0 := cell_of_row w6 (w.heap.size + 1) 0 _ _ _ g6
    have q1 := cell_of_row w6 (w.heap.size + 1) 1 _ _ _ g6
    have q2 := cell_of_row w6 (w.heap.size + 1) 2 _ _ _ g6
    have q3 := cell_of_row w6 (w.heap.size + 1) 3 _ _ _ g6
    have q4 := cell_of_row w6 (w.heap.size + 1) 4 _ _ _ g6
    have q5 := cell_of_row w6 (w.heap.size + 1) 5 _ _ _ g6
    simp at q0 q1 q2 q3 q4 q5
    have b6w : Below w.heap.size w w6 := b3.trans (b6.mono (by omega))
    have hz6 : ws.heap.size ≤ w6.heap.size := by rw [z6, World.size_setCell]; exact Nat.le_refl _
    have hN6 := hws.off (w' := w6) (fun x hx => by have := wfr x hx; exact (o6 _ (by omega)).trans (Below.heap_setCell _ _ _ _ (by show x.block ≠ w.heap.size; omega))) hz6
    exact bodyPost_ret (v := .tuple #[.agg #[.int .i64 (m : Nat), .int .i64 (k : Nat), .int .u64 (seed : Nat), .slice wa wn wcp, .slice a1 n1 c1, .slice a2 n2 c2], .bool (!T)]) (by simp [results, Try.results12, go_sem, q0, q1, q2, q3, q4, q5]) rfl ⟨⟨_, rfl, ⟨⟨wa, a1, a2, wn, n1, n2, wcp, c1, c2, rfl, hN6, h1.mono b6w, h2.mono b6w⟩, m1, m2, k1, k2, sd⟩, fun Q hQ hv => offAt_row.2 ⟨fun x hx => hQ _ (by have := wfr x hx; omega), (offAt_row.1 hv).2⟩⟩, b6w⟩
  · go_simp
    refine (hP _ t6).mono ?_
    rintro e wt ⟨pa, pc, rfl, hip, bt⟩
    have zb : w.heap.size < w1.drew.heap.size := Nat.lt_of_succ_lt z1
    have t0 : wt.cell? ⟨w.heap.size, 0, none⟩ = some (.int .i64 (m : Nat)) := (bt.cell (p := ⟨w.heap.size, 0, none⟩) zb).trans x0
    have t1 : wt.cell? ⟨w.heap.size, 1, none⟩ = some (.int .i64 (k : Nat)) := (bt.cell (p := ⟨w.heap.size, 1, none⟩) zb).trans x1
    have t2 : wt.cell? ⟨w.heap.size, 2, none⟩ = some (.int .u64 (seed : Nat)) := (bt.cell (p := ⟨w.heap.size, 2, none⟩) zb).trans x2
    have t3 : wt.cell? ⟨w.heap.size, 3, none⟩ = some (.slice a0 n0 c0) := (bt.cell (p := ⟨w.heap.size, 3, none⟩) zb).trans x3
    have tg := (bt.block w.heap.size zb).trans gx
    have tr := (bt.block (w.heap.size + 1) z1).trans gr
    have zt : w.heap.size + 1 < wt.heap.size := Nat.lt_of_lt_of_le z1 bt.size
    have bw := below_then t6 bt
    go_wp2_with fail
    refine hK.out _ _ (⟨t0, t1, t2⟩) (fun hHeld => ?_)
    clear hK K
    try simp only [Act.put, List.setIfInBounds_toArray, List.set_cons_zero, List.set_cons_succ]
    refine wpAnyH_ready (rs := [2]) (by kernel_rfl) (by simp) ?_
    refine AllReadyH.cons rfl (fun K hK => ?_) (AllReadyH.nil)
    go_simp
    refine hK.out _ _ (⟨t0, t1, t2⟩) (fun hHeld => ?_)
    clear hK K
    try simp only [Act.put, List.setIfInBounds_toArray, List.set_cons_zero, List.set_cons_succ]
    refine wpAnyH_ready (rs := [11]) (by kernel_rfl) (by simp) ?_
    refine AllReadyH.cons rfl (fun K hK => ?_) (AllReadyH.nil)
    go_simp
    refine (hW _ bw _ _ hip).mono ?_
    rintro e ws ⟨wa, wn, wcp, rfl, hws, bs, wfr⟩
    have sg := (bs.block w.heap.size (Nat.lt_of_succ_lt zt)).trans tg
    have sr := (bs.block (w.heap.size + 1) zt).trans tr
    have sf := frozen_of_row ws _ 3 _ _ sg
    have bsw := below_then bw bs
    have s0 : ws.cell? ⟨w.heap.size, 0, none⟩ = some (.int .i64 (m : Nat)) := (bs.cell (p := ⟨w.heap.size, 0, none⟩) (Nat.lt_of_succ_lt zt)).trans t0
    have s1 : ws.cell? ⟨w.heap.size, 1, none⟩ = some (.int .i64 (k : Nat)) := (bs.cell (p := ⟨w.heap.size, 1, none⟩) (Nat.lt_of_succ_lt zt)).trans t1
    have s2 : ws.cell? ⟨w.heap.size, 2, none⟩ = some (.int .u64 (seed : Nat)) := (bs.cell (p := ⟨w.heap.size, 2, none⟩) (Nat.lt_of_succ_lt zt)).trans t2
    have s3 : ws.cell? ⟨w.heap.size, 3, none⟩ = some (.slice a0 n0 c0) := (bs.cell (p := ⟨w.heap.size, 3, none⟩) (Nat.lt_of_succ_lt zt)).trans t3
    go_wp2_with fail
    refine hK.out _ _ (⟨s0, s1, s2⟩) (fun hHeld => ?_)
    clear hK K
    try simp only [Act.put, List.setIfInBounds_toArray, List.set_cons_zero, List.set_cons_succ]
    refine wpAnyH_take (i := 13) (v := ?_) rfl (by kernel_rfl) (by kernel_rfl) (by kernel_rfl) (fun _ _ _ h => h) (Or.inl ⟨by rfl, ?_⟩) (by assumption) ?_
    rotate_left
    · (intro wq hSw; (try dsimp only at hSw); go_simp; try with_reducible rfl)
    try simp only [Act.put, List.setIfInBounds_toArray, List.set_cons_zero, List.set_cons_succ]
    refine wpAnyH_ready (rs := [14]) (by kernel_rfl) (by simp) ?_
    refine AllReadyH.cons rfl (fun K hK => ?_) (AllReadyH.nil)
    go_simp
    refine hK.out _ _ (by have hq := Joins.block_setCell (i := 3) sg (.slice wa wn wcp); exact ⟨cell_of_row _ _ 0 _ _ _ hq, cell_of_row _ _ 1 _ _ _ hq, cell_of_row _ _ 2 _ _ _ hq⟩) (fun hHeld => ?_)
    clear hK K
    try simp only [Act.put, List.setIfInBounds_toArray, List.set_cons_zero, List.set_cons_succ]
    refine wpAnyH_done (by kernel_rfl) ?_ _
    refine NoPanic.normal ?_
    have sg3 := Joins.block_setCell (i := 3) sg (.slice wa wn wcp)
    have sr3 : (ws.setCell ⟨w.heap.size, 3, none⟩ (.slice wa wn wcp)).heap[w.heap.size + 1]? = some (.cells #[.int .i64 0, .int .i64 0, .int .u64 0, .slice none 0 0, .slice none 0 0, .slice none 0 0] 38 (0, 0)) := (Below.heap_setCell _ _ _ _ (by show w.heap.size + 1 ≠ w.heap.size; omega)).trans sr
    have b3 := bsw.setCell (Nat.le_refl _) (p := ⟨w.heap.size, 3, none⟩) (.slice wa wn wcp)
    go_wp2_with (first | (refine wpList_load_row rfl 38 _ rfl w.heap.size rfl 38 _ _ _ sg3 Try.underlying38 rfl (by kernel_rfl) ?_) | (refine store_rec rfl 38 (.tmp 4) (.tmp 24) rfl (w.heap.size + 1) #[.int .i64 (m : Nat), .int .i64 (k : Nat), .int .u64 (seed : Nat), .slice wa wn wcp, .slice a1 n1 c1, .slice a2 n2 c2] rfl rfl 38 _ sr3 (by kernel_rfl) rfl (by simp [Value.oneCell']) ?_; intro w6 g6 z6 o6 b6))
    have q0 := cell_of_row w6 (w.heap.size + 1) 0 _ _ _ g6
    have q1 := cell_of_row w6 (w.heap.size + 1) 1 _ _ _ g6
    have q2 := cell_of_row w6 (w.heap.size + 1) 2 _ _ _ g6
    have q3 := cell_of_row w6 (w.heap.size + 1) 3 _ _ _ g6
    have q4 := cell_of_row w6 (w.heap.size + 1) 4 _ _ _ g6
    have q5 := cell_of_row w6 (w.heap.size + 1) 5 _ _ _ g6
    simp at q0 q1 q2 q3 q4 q5
    have b6w : Below w.heap.size w w6 := b3.trans (b6.mono (by omega))
    have hz6 : ws.heap.size ≤ w6.heap.size := by rw [z6, World.size_setCell]; exact Nat.le_refl _
    have hN6 := hws.off (w' := w6) (fun x hx => by have := wfr x hx; exact (o6 _ (by omega)).trans (Below.heap_setCell _ _ _ _ (by show x.block ≠ w.heap.size; omega))) hz6
    exact bodyPost_ret (v := .tuple #[.agg #[.int .i64 (m : Nat), .int .i64 (k : Nat), .int .u64 (seed : Nat), .slice wa wn wcp, .slice a1 n1 c1, .slice a2 n2 c2], .bool (!T)]) (by simp [results, Try.results12, go_sem, q0, q1, q2, q3, q4, q5]) rfl ⟨⟨_, rfl, ⟨⟨wa, a1, a2, wn, n1, n2, wcp, c1, c2, rfl, hN6, h1.mono b6w, h2.mono b6w⟩, m1, m2, k1, k2, sd⟩, fun Q hQ hv => offAt_row.2 ⟨fun x hx => hQ _ (by have := wfr x hx; omega), (offAt_row.1 hv).2⟩⟩, b6w⟩
  -- END REGION
end Go.Proofs.Ytcnpomejdnpegaa
