/- The document's store: Set (by gen10j.py). -/
import Derived.Test.YtcnpomejdnpegaaBlurRef4
namespace Go.Proofs.Ytcnpomejdnpegaa
open Go.RowKit
set_option linter.unusedVariables false

set_option maxRecDepth 100000 in
set_option maxHeartbeats 4000000 in
theorem refSet_bad (w : World) (m k seed : Nat) (v : Value) (on0 on1 on2 : List Nat) (ky : Value) (hb : RefAt w m k seed v on0 on1 on2) (fl : Int) (hf : fl < 0 ∨ 2 ≤ fl) :
    Calls Try.prog 14 #[v, ky, .int .i64 fl] w fun e w' => e = .returned (.tuple #[v, .int .i64 1]) ∧ Below w.heap.size w w' := by
  obtain ⟨a0, a1, a2, n0, n1, n2, c0, c1, c2, rfl, h0, h1, h2⟩ := hb.val
  have bA : ∀ o o' : Obj, Below w.heap.size w ((w.alloc o).alloc o') := fun o o' => ((Below.refl _ _).alloc (Nat.le_refl _) _).alloc (by simp) _
  have p0 := heap2a w (.cells #[.int .i64 (m : Nat), .int .i64 (k : Nat), .int .u64 (seed : Nat), .slice a0 n0 c0, .slice a1 n1 c1, .slice a2 n2 c2] 38) (.cells #[.int .i64 0, .int .i64 0, .int .u64 0, .slice none 0 0, .slice none 0 0, .slice none 0 0] 38)
  have p1 := heap2b w (.cells #[.int .i64 (m : Nat), .int .i64 (k : Nat), .int .u64 (seed : Nat), .slice a0 n0 c0, .slice a1 n1 c1, .slice a2 n2 c2] 38) (.cells #[.int .i64 0, .int .i64 0, .int .u64 0, .slice none 0 0, .slice none 0 0, .slice none 0 0] 38)
  clear hb h0 h1 h2
  go_enter Try.func14, Try.ntmps14
  by_cases h : fl < 0
  · have f1 : decide (fl < 0) = true := by simpa using h
    go_wp2_with (first | (refine wpList_load_row rfl 38 _ rfl w.heap.size rfl 38 _ _ _ p0 Try.underlying38 rfl (by kernel_rfl) ?_) | (refine store_rec rfl 38 (.tmp 6) (.tmp 15) rfl (w.heap.size + 1) #[.int .i64 (m : Nat), .int .i64 (k : Nat), .int .u64 (seed : Nat), .slice a0 n0 c0, .slice a1 n1 c1, .slice a2 n2 c2] rfl rfl 38 _ p1 (by kernel_rfl) rfl (by simp [Value.oneCell']) ?_; intro w6 g6 z6 o6 b6))
    have q0 := cell_of_row w6 (w.heap.size + 1) 0 _ _ _ g6
    have q1 := cell_of_row w6 (w.heap.size + 1) 1 _ _ _ g6
    have q2 := cell_of_row w6 (w.heap.size + 1) 2 _ _ _ g6
    have q3 := cell_of_row w6 (w.heap.size + 1) 3 _ _ _ g6
    have q4 := cell_of_row w6 (w.heap.size + 1) 4 _ _ _ g6
    have q5 := cell_of_row w6 (w.heap.size + 1) 5 _ _ _ g6
    simp at q0 q1 q2 q3 q4 q5
    exact bodyPost_ret (v := .tuple #[.agg #[.int .i64 (m : Nat), .int .i64 (k : Nat), .int .u64 (seed : Nat), .slice a0 n0 c0, .slice a1 n1 c1, .slice a2 n2 c2], .int .i64 1]) (by simp [results, Try.results14, go_sem, q0, q1, q2, q3, q4, q5]) rfl ⟨rfl, (bA _ _).trans (b6.mono (by omega))⟩
  · have f1 : decide (fl < 0) = false := by simpa using h
    have f2 : decide (1 < fl) = true := by simp; omega
    go_wp2_with (first | (refine wpList_load_row rfl 38 _ rfl w.heap.size rfl 38 _ _ _ p0 Try.underlying38 rfl (by kernel_rfl) ?_) | (refine store_rec rfl 38 (.tmp 6) (.tmp 15) rfl (w.heap.size + 1) #[.int .i64 (m : Nat), .int .i64 (k : Nat), .int .u64 (seed : Nat), .slice a0 n0 c0, .slice a1 n1 c1, .slice a2 n2 c2] rfl rfl 38 _ p1 (by kernel_rfl) rfl (by simp [Value.oneCell']) ?_; intro w6 g6 z6 o6 b6))
    have q0 := cell_of_row w6 (w.heap.size + 1) 0 _ _ _ g6
    have q1 := cell_of_row w6 (w.heap.size + 1) 1 _ _ _ g6
    have q2 := cell_of_row w6 (w.heap.size + 1) 2 _ _ _ g6
    have q3 := cell_of_row w6 (w.heap.size + 1) 3 _ _ _ g6
    have q4 := cell_of_row w6 (w.heap.size + 1) 4 _ _ _ g6
    have q5 := cell_of_row w6 (w.heap.size + 1) 5 _ _ _ g6
    simp at q0 q1 q2 q3 q4 q5
    exact bodyPost_ret (v := .tuple #[.agg #[.int .i64 (m : Nat), .int .i64 (k : Nat), .int .u64 (seed : Nat), .slice a0 n0 c0, .slice a1 n1 c1, .slice a2 n2 c2], .int .i64 1]) (by simp [results, Try.results14, go_sem, q0, q1, q2, q3, q4, q5]) rfl ⟨rfl, (bA _ _).trans (b6.mono (by omega))⟩

set_option maxRecDepth 100000 in
set_option maxHeartbeats 4000000 in
theorem refSet0_none (w : World) (m k seed : Nat) (v : Value) (on0 on1 on2 : List Nat) (ka : Option Addr) (kl kc : Nat) (key : List Nat) (hb : RefAt w m k seed v on0 on1 on2) (hk : BytesAt w ka kl kc key) (hall : (placesN key seed m k).all (fun p => decide (p ∈ on0)) = false) :
    Calls Try.prog 14 #[v, .slice ka kl kc, .int .i64 0] w fun e w' => e = .returned (.tuple #[v, .int .i64 10]) ∧ Below w.heap.size w w' := by
  obtain ⟨a0, a1, a2, n0, n1, n2, c0, c1, c2, rfl, h0, h1, h2⟩ := hb.val
  have bA : ∀ o o' : Obj, Below w.heap.size w ((w.alloc o).alloc o') := fun o o' => ((Below.refl _ _).alloc (Nat.le_refl _) _).alloc (by simp) _
  have hF := fun (w' : World) (h : Below w.heap.size w w') => refMember_any w' m k seed _ on0 on1 on2 ka kl kc key (hb.mono h) (hk.mono h)
  rw [hall] at hF
  clear hb h0 h1 h2 hall
  go_enter Try.func14, Try.ntmps14
  go_wp2_with fail
  refine (hF _ (bA _ _)).mono ?_
  rintro e w1 ⟨rfl, b1⟩
  have t5 := below_then (bA _ _) b1
  have gx : w1.heap[w.heap.size]? = some (.cells #[.int .i64 (m : Nat), .int .i64 (k : Nat), .int .u64 (seed : Nat), .slice a0 n0 c0, .slice a1 n1 c1, .slice a2 n2 c2] 38 (0, 0)) := (b1.block w.heap.size (by simp; omega)).trans (heap2a w _ _)
  have gr : w1.heap[w.heap.size + 1]? = some (.cells #[.int .i64 0, .int .i64 0, .int .u64 0, .slice none 0 0, .slice none 0 0, .slice none 0 0] 38 (0, 0)) := (b1.block (w.heap.size + 1) (by simp)).trans (heap2b w _ _)
  clear hF b1
  go_wp2_with (first | (refine wpList_load_row rfl 38 _ rfl w.heap.size rfl 38 _ _ _ gx Try.underlying38 rfl (by kernel_rfl) ?_) | (refine store_rec rfl 38 (.tmp 6) (.tmp 21) rfl (w.heap.size + 1) #[.int .i64 (m : Nat), .int .i64 (k : Nat), .int .u64 (seed : Nat), .slice a0 n0 c0, .slice a1 n1 c1, .slice a2 n2 c2] rfl rfl 38 _ gr (by kernel_rfl) rfl (by simp [Value.oneCell']) ?_; intro w6 g6 z6 o6 b6))
  have q0 := cell_of_row w6 (w.heap.size + 1) 0 _ _ _ g6
  have q1 := cell_of_row w6 (w.heap.size + 1) 1 _ _ _ g6
  have q2 := cell_of_row w6 (w.heap.size + 1) 2 _ _ _ g6
  have q3 := cell_of_row w6 (w.heap.size + 1) 3 _ _ _ g6
  have q4 := cell_of_row w6 (w.heap.size + 1) 4 _ _ _ g6
  have q5 := cell_of_row w6 (w.heap.size + 1) 5 _ _ _ g6
  simp at q0 q1 q2 q3 q4 q5
  exact bodyPost_ret (v := .tuple #[.agg #[.int .i64 (m : Nat), .int .i64 (k : Nat), .int .u64 (seed : Nat), .slice a0 n0 c0, .slice a1 n1 c1, .slice a2 n2 c2], .int .i64 10]) (by simp [results, Try.results14, go_sem, q0, q1, q2, q3, q4, q5]) rfl ⟨rfl, t5.trans (b6.mono (by omega))⟩

set_option maxRecDepth 100000 in
set_option maxHeartbeats 8000000 in
theorem refSet0_ok (w : World) (m k seed : Nat) (v : Value) (on0 on1 on2 : List Nat) (ka : Option Addr) (kl kc : Nat) (key : List Nat) (hb : RefAt w m k seed v on0 on1 on2) (hk : BytesAt w ka kl kc key) (hl : on1.length ≤ 500000) (hall : (placesN key seed m k).all (fun p => decide (p ∈ on0)) = true) :
    Calls Try.prog 14 #[v, .slice ka kl kc, .int .i64 0] w fun e w' => (∃ v', e = .returned (.tuple #[v', .int .i64 0]) ∧ RefAt w' m k seed v' on0 (withV on1 (placesN key seed m k)) on2 ∧ (∀ Q : Nat → Prop, (∀ b, w.heap.size ≤ b → Q b) → OffAt Q v → OffAt Q v')) ∧ Below w.heap.size w w' := by
  have m1 := hb.m1
  have m2 := hb.m2
  have k1 := hb.k1
  have k2 := hb.k2
  have sd := hb.sd
  obtain ⟨a0, a1, a2, n0, n1, n2, c0, c1, c2, rfl, h0, h1, h2⟩ := hb.val
  have bA : ∀ o o' : Obj, Below w.heap.size w ((w.alloc o).alloc o') := fun o o' => ((Below.refl _ _).alloc (Nat.le_refl _) _).alloc (by simp) _
  have hF := fun (w' : World) (h : Below w.heap.size w w') => refMember_any w' m k seed _ on0 on1 on2 ka kl kc key (hb.mono h) (hk.mono h)
  rw [hall] at hF
  have hn0 := h1.len_eq
  obtain ⟨ps, hps⟩ : ∃ ps, placesN key seed m k = ps := ⟨_, rfl⟩
  have hP := fun (w' : World) (h : Below w.heap.size w w') => refPlacesN w' ka kl kc key seed m k sd m2 k1 k2 (hk.mono h)
  rw [hps] at hP ⊢
  have hW := fun (w' : World) (h : Below w.heap.size w w') (pa : Option Addr) (pc : Nat) (hp : NatsAt w' pa k pc ps) => with_any w' a1 n1 c1 on1 pa k pc ps (h1.mono h) hp (by omega)
  clear hps hb hn0 hl hall
  go_enter Try.func14, Try.ntmps14
  go_wp2_with fail
  refine (hF _ (bA _ _)).mono ?_
  rintro e w1 ⟨rfl, b1⟩
  have t5 := below_then (bA _ _) b1
  have gx : w1.heap[w.heap.size]? = some (.cells #[.int .i64 (m : Nat), .int .i64 (k : Nat), .int .u64 (seed : Nat), .slice a0 n0 c0, .slice a1 n1 c1, .slice a2 n2 c2] 38 (0, 0)) := (b1.block w.heap.size (by simp; omega)).trans (heap2a w _ _)
  have gr : w1.heap[w.heap.size + 1]? = some (.cells #[.int .i64 0, .int .i64 0, .int .u64 0, .slice none 0 0, .slice none 0 0, .slice none 0 0] 38 (0, 0)) := (b1.block (w.heap.size + 1) (by simp)).trans (heap2b w _ _)
  have t6 := t5.drew
  have z1 : w.heap.size + 1 < w1.drew.heap.size := Nat.lt_of_lt_of_le (by simp) b1.size
  have x0 : w1.drew.cell? ⟨w.heap.size, 0, none⟩ = some (.int .i64 (m : Nat)) := cell_of_row w1 _ 0 _ _ _ gx
  have x1 : w1.drew.cell? ⟨w.heap.size, 1, none⟩ = some (.int .i64 (k : Nat)) := cell_of_row w1 _ 1 _ _ _ gx
  have x2 : w1.drew.cell? ⟨w.heap.size, 2, none⟩ = some (.int .u64 (seed : Nat)) := cell_of_row w1 _ 2 _ _ _ gx
  have x4 : w1.drew.cell? ⟨w.heap.size, 4, none⟩ = some (.slice a1 n1 c1) := cell_of_row w1 _ 4 _ _ _ gx
  have e1 : IntKind.i64.wrap (1 : Int) = 1 := by decide
  clear hF
  go_wp2_with fail
  refine wp_region_noPanic ?_
  refine wp_region_held_drew (S := fun w' => w'.cell? ⟨w.heap.size, 0, none⟩ = some (.int .i64 (m : Nat)) ∧ w'.cell? ⟨w.heap.size, 1, none⟩ = some (.int .i64 (k : Nat)) ∧ w'.cell? ⟨w.heap.size, 2, none⟩ = some (.int .u64 (seed : Nat))) (by kernel_rfl) ⟨x0, x1, x2⟩ (fun hHeld => ?_)
  refine wpAnyH_take (i := 0) (v := ?_) rfl (by kernel_rfl) (by kernel_rfl) (by kernel_rfl) (fun _ _ _ h => h) (Or.inl ⟨by rfl, ?_⟩) (by assumption) ?_
  rotate_left
  · (intro wq hSw; (try dsimp only at hSw); go_simp; try with_reducible rfl)
  try simp only [Act.put, List.setIfInBounds_toArray, List.set_cons_zero, List.set_cons_succ]
  refine wpAnyH_take (i := 1) (v := ?_) rfl (by kernel_rfl) (by kernel_rfl) (by kernel_rfl) (fun _ _ _ h => h) (Or.inl ⟨by rfl, ?_⟩) (by assumption) ?_
  rotate_left
  · (intro wq hSw; (try dsimp only at hSw); go_simp; try with_reducible rfl)
  try simp only [Act.put, List.setIfInBounds_toArray, List.set_cons_zero, List.set_cons_succ]
  refine wpAnyH_take (i := 2) (v := ?_) rfl (by kernel_rfl) (by kernel_rfl) (by kernel_rfl) (fun _ _ _ h => h) (Or.inl ⟨by rfl, ?_⟩) (by assumption) ?_
  rotate_left
  · (intro wq hSw; (try dsimp only at hSw); go_simp; try with_reducible rfl)
  try simp only [Act.put, List.setIfInBounds_toArray, List.set_cons_zero, List.set_cons_succ]
  refine wpAnyH_take (i := 3) (v := ?_) rfl (by kernel_rfl) (by kernel_rfl) (by kernel_rfl) (fun _ _ _ h => h) (Or.inl ⟨by rfl, ?_⟩) (by assumption) ?_
  rotate_left
  · (intro wq hSw; (try dsimp only at hSw); go_simp; try with_reducible rfl)
  try simp only [Act.put, List.setIfInBounds_toArray, List.set_cons_zero, List.set_cons_succ]
  refine wpAnyH_take (i := 4) (v := ?_) rfl (by kernel_rfl) (by kernel_rfl) (by kernel_rfl) (fun _ _ _ h => h) (Or.inl ⟨by rfl, ?_⟩) (by assumption) ?_
  rotate_left
  · (intro wq hSw; (try dsimp only at hSw); go_simp; try with_reducible rfl)
  try simp only [Act.put, List.setIfInBounds_toArray, List.set_cons_zero, List.set_cons_succ]
  refine wpAnyH_take (i := 5) (v := ?_) rfl (by kernel_rfl) (by kernel_rfl) (by kernel_rfl) (fun _ _ _ h => h) (Or.inl ⟨by rfl, ?_⟩) (by assumption) ?_
  rotate_left
  · (intro wq hSw; (try dsimp only at hSw); go_simp; try with_reducible rfl)
  try simp only [Act.put, List.setIfInBounds_toArray, List.set_cons_zero, List.set_cons_succ]
  refine wpAnyH_take (i := 7) (v := ?_) rfl (by kernel_rfl) (by kernel_rfl) (by kernel_rfl) (fun _ _ _ h => h) (Or.inl ⟨by rfl, ?_⟩) (by assumption) ?_
  rotate_left
  · (intro wq hSw; (try dsimp only at hSw); go_simp; try with_reducible rfl)
  try simp only [Act.put, List.setIfInBounds_toArray, List.set_cons_zero, List.set_cons_succ]
  refine wpAnyH_take (i := 8) (v := ?_) rfl (by kernel_rfl) (by kernel_rfl) (by kernel_rfl) (fun _ _ _ h => h) (Or.inl ⟨by rfl, ?_⟩) (by assumption) ?_
  rotate_left
  · (intro wq hSw; (try dsimp only at hSw); go_simp; try with_reducible rfl)
  try simp only [Act.put, List.setIfInBounds_toArray, List.set_cons_zero, List.set_cons_succ]
  refine wpAnyH_take (i := 9) (v := ?_) rfl (by kernel_rfl) (by kernel_rfl) (by kernel_rfl) (fun _ _ _ h => h) (Or.inl ⟨by rfl, ?_⟩) (by assumption) ?_
  rotate_left
  · (intro wq hSw; (try dsimp only at hSw); go_simp; try with_reducible rfl)
  try simp only [Act.put, List.setIfInBounds_toArray, List.set_cons_zero, List.set_cons_succ]
  refine wpAnyH_take (i := 10) (v := ?_) rfl (by kernel_rfl) (by kernel_rfl) (by kernel_rfl) (fun _ _ _ h => h) (Or.inl ⟨by rfl, ?_⟩) (by assumption) ?_
  rotate_left
  · (intro wq hSw; (try dsimp only at hSw); go_simp; try with_reducible rfl)
  try simp only [Act.put, List.setIfInBounds_toArray, List.set_cons_zero, List.set_cons_succ]
  refine wpAnyH_take (i := 11) (v := ?_) rfl (by kernel_rfl) (by kernel_rfl) (by kernel_rfl) (fun _ _ _ h => h) (Or.inl ⟨by rfl, ?_⟩) (by assumption) ?_
  rotate_left
  · (intro wq hSw; (try dsimp only at hSw); go_simp; try with_reducible rfl)
  try simp only [Act.put, List.setIfInBounds_toArray, List.set_cons_zero, List.set_cons_succ]
  refine wpAnyH_take (i := 12) (v := ?_) rfl (by kernel_rfl) (by kernel_rfl) (by kernel_rfl) (fun _ _ _ h => h) (Or.inl ⟨by rfl, ?_⟩) (by assumption) ?_
  rotate_left
  · (intro wq hSw; (try dsimp only at hSw); go_simp; try with_reducible rfl)
  try simp only [Act.put, List.setIfInBounds_toArray, List.set_cons_zero, List.set_cons_succ]
  refine wpAnyH_take (i := 13) (v := ?_) rfl (by kernel_rfl) (by kernel_rfl) (by kernel_rfl) (fun _ _ _ h => h) (Or.inl ⟨by rfl, ?_⟩) (by assumption) ?_
  rotate_left
  · (intro wq hSw; (try dsimp only at hSw); go_simp; try with_reducible rfl)
  try simp only [Act.put, List.setIfInBounds_toArray, List.set_cons_zero, List.set_cons_succ]
  refine wpAnyH_take (i := 16) (v := ?_) rfl (by kernel_rfl) (by kernel_rfl) (by kernel_rfl) (fun _ _ _ h => h) (Or.inl ⟨by rfl, ?_⟩) (by assumption) ?_
  rotate_left
  · (intro wq hSw; (try dsimp only at hSw); go_simp; try with_reducible rfl)
  try simp only [Act.put, List.setIfInBounds_toArray, List.set_cons_zero, List.set_cons_succ]
  refine wpAnyH_ready (rs := [6, 14]) (by kernel_rfl) (by simp) ?_
  refine AllReadyH.cons rfl (fun K hK => ?_) (AllReadyH.cons rfl (fun K hK => ?_) (AllReadyH.nil))
  · go_simp
    refine hK.out _ _ (⟨x0, x1, x2⟩) (fun hHeld => ?_)
    clear hK K
    try simp only [Act.put, List.setIfInBounds_toArray, List.set_cons_zero, List.set_cons_succ]
    refine wpAnyH_ready (rs := [14]) (by kernel_rfl) (by simp) ?_
    refine AllReadyH.cons rfl (fun K hK => ?_) (AllReadyH.nil)
    go_simp
    refine (hP _ t6).mono ?_
    rintro e wt ⟨pa, pc, rfl, hip, bt⟩
    have zb : w.heap.size < w1.drew.heap.size := Nat.lt_of_succ_lt z1
    have t0 : wt.cell? ⟨w.heap.size, 0, none⟩ = some (.int .i64 (m : Nat)) := (bt.cell (p := ⟨w.heap.size, 0, none⟩) zb).trans x0
    have t1 : wt.cell? ⟨w.heap.size, 1, none⟩ = some (.int .i64 (k : Nat)) := (bt.cell (p := ⟨w.heap.size, 1, none⟩) zb).trans x1
    have t2 : wt.cell? ⟨w.heap.size, 2, none⟩ = some (.int .u64 (seed : Nat)) := (bt.cell (p := ⟨w.heap.size, 2, none⟩) zb).trans x2
    have t4 : wt.cell? ⟨w.heap.size, 4, none⟩ = some (.slice a1 n1 c1) := (bt.cell (p := ⟨w.heap.size, 4, none⟩) zb).trans x4
    have tg := (bt.block w.heap.size zb).trans gx
    have tr := (bt.block (w.heap.size + 1) z1).trans gr
    have zt : w.heap.size + 1 < wt.heap.size := Nat.lt_of_lt_of_le z1 bt.size
    have bw := below_then t6 bt
    go_wp2_with fail
    refine hK.out _ _ (⟨t0, t1, t2⟩) (fun hHeld => ?_)
    clear hK K
    try simp only [Act.put, List.setIfInBounds_toArray, List.set_cons_zero, List.set_cons_succ]
    refine wpAnyH_ready (rs := [15]) (by kernel_rfl) (by simp) ?_
    refine AllReadyH.cons rfl (fun K hK => ?_) (AllReadyH.nil)
    go_simp
    refine (hW _ bw _ _ hip).mono ?_
    rintro e ws ⟨wa, wn, wcp, rfl, hws, bs, wfr⟩
    have sg := (bs.block w.heap.size (Nat.lt_of_succ_lt zt)).trans tg
    have sr := (bs.block (w.heap.size + 1) zt).trans tr
    have sf := frozen_of_row ws _ 4 _ _ sg
    have bsw := below_then bw bs
    have s0 : ws.cell? ⟨w.heap.size, 0, none⟩ = some (.int .i64 (m : Nat)) := (bs.cell (p := ⟨w.heap.size, 0, none⟩) (Nat.lt_of_succ_lt zt)).trans t0
    have s1 : ws.cell? ⟨w.heap.size, 1, none⟩ = some (.int .i64 (k : Nat)) := (bs.cell (p := ⟨w.heap.size, 1, none⟩) (Nat.lt_of_succ_lt zt)).trans t1
    have s2 : ws.cell? ⟨w.heap.size, 2, none⟩ = some (.int .u64 (seed : Nat)) := (bs.cell (p := ⟨w.heap.size, 2, none⟩) (Nat.lt_of_succ_lt zt)).trans t2
    have s4 : ws.cell? ⟨w.heap.size, 4, none⟩ = some (.slice a1 n1 c1) := (bs.cell (p := ⟨w.heap.size, 4, none⟩) (Nat.lt_of_succ_lt zt)).trans t4
    go_wp2_with fail
    refine hK.out _ _ (⟨s0, s1, s2⟩) (fun hHeld => ?_)
    clear hK K
    try simp only [Act.put, List.setIfInBounds_toArray, List.set_cons_zero, List.set_cons_succ]
    refine wpAnyH_take (i := 17) (v := ?_) rfl (by kernel_rfl) (by kernel_rfl) (by kernel_rfl) (fun _ _ _ h => h) (Or.inl ⟨by rfl, ?_⟩) (by assumption) ?_
    rotate_left
    · (intro wq hSw; (try dsimp only at hSw); go_simp; try with_reducible rfl)
    try simp only [Act.put, List.setIfInBounds_toArray, List.set_cons_zero, List.set_cons_succ]
    refine wpAnyH_ready (rs := [18]) (by kernel_rfl) (by simp) ?_
    refine AllReadyH.cons rfl (fun K hK => ?_) (AllReadyH.nil)
    go_simp
    refine hK.out _ _ (by have hq := Joins.block_setCell (i := 4) sg (.slice wa wn wcp); exact ⟨cell_of_row _ _ 0 _ _ _ hq, cell_of_row _ _ 1 _ _ _ hq, cell_of_row _ _ 2 _ _ _ hq⟩) (fun hHeld => ?_)
    clear hK K
    try simp only [Act.put, List.setIfInBounds_toArray, List.set_cons_zero, List.set_cons_succ]
    refine wpAnyH_done (by kernel_rfl) ?_ _
    refine NoPanic.normal ?_
    have sg3 := Joins.block_setCell (i := 4) sg (.slice wa wn wcp)
    have sr3 : (ws.setCell ⟨w.heap.size, 4, none⟩ (.slice wa wn wcp)).heap[w.heap.size + 1]? = some (.cells #[.int .i64 0, .int .i64 0, .int .u64 0, .slice none 0 0, .slice none 0 0, .slice none 0 0] 38 (0, 0)) := (Below.heap_setCell _ _ _ _ (by show w.heap.size + 1 ≠ w.heap.size; omega)).trans sr
    have b3 := bsw.setCell (Nat.le_refl _) (p := ⟨w.heap.size, 4, none⟩) (.slice wa wn wcp)
    go_wp2_with (first | (refine wpList_load_row rfl 38 _ rfl w.heap.size rfl 38 _ _ _ sg3 Try.underlying38 rfl (by kernel_rfl) ?_) | (refine store_rec rfl 38 (.tmp 6) (.tmp 40) rfl (w.heap.size + 1) #[.int .i64 (m : Nat), .int .i64 (k : Nat), .int .u64 (seed : Nat), .slice a0 n0 c0, .slice wa wn wcp, .slice a2 n2 c2] rfl rfl 38 _ sr3 (by kernel_rfl) rfl (by simp [Value.oneCell']) ?_; intro w6 g6 z6 o6 b6))
    have q0 := cell_of_row w6 (w.heap.size + 1) 0 _ _ _ g6
    have q1 := cell_of_row w6 (w.heap.size + 1) 1 _ _ _ g6
    have q2 := cell_of_row w6 (w.heap.size + 1) 2 _ _ _ g6
    have q3 := cell_of_row w6 (w.heap.size + 1) 3 _ _ _ g6
    have q4 := cell_of_row w6 (w.heap.size + 1) 4 _ _ _ g6
    have q5 := cell_of_row w6 (w.heap.size + 1) 5 _ _ _ g6
    simp at q0 q1 q2 q3 q4 q5
    have b6w : Below w.heap.size w w6 := b3.trans (b6.mono (by omega))
    have hz6 : ws.heap.size ≤ w6.heap.size := by rw [z6, World.size_setCell]; exact Nat.le_refl _
    have hN6 := hws.off (w' := w6) (fun x hx => by have := wfr x hx; exact (o6 _ (by omega)).trans (Below.heap_setCell _ _ _ _ (by show x.block ≠ w.heap.size; omega))) hz6
    exact bodyPost_ret (v := .tuple #[.agg #[.int .i64 (m : Nat), .int .i64 (k : Nat), .int .u64 (seed : Nat), .slice a0 n0 c0, .slice wa wn wcp, .slice a2 n2 c2], .int .i64 0]) (by simp [results, Try.results14, go_sem, q0, q1, q2, q3, q4, q5]) rfl ⟨⟨_, rfl, ⟨⟨a0, wa, a2, n0, wn, n2, c0, wcp, c2, rfl, h0.mono b6w, hN6, h2.mono b6w⟩, m1, m2, k1, k2, sd⟩, fun Q hQ hv => offAt_row.2 ⟨(offAt_row.1 hv).1, fun x hx => hQ _ (by have := wfr x hx; omega), (offAt_row.1 hv).2.2⟩⟩, b6w⟩
  · go_simp
    refine (hP _ t6).mono ?_
    rintro e wt ⟨pa, pc, rfl, hip, bt⟩
    have zb : w.heap.size < w1.drew.heap.size := Nat.lt_of_succ_lt z1
    have t0 : wt.cell? ⟨w.heap.size, 0, none⟩ = some (.int .i64 (m : Nat)) := (bt.cell (p := ⟨w.heap.size, 0, none⟩) zb).trans x0
    have t1 : wt.cell? ⟨w.heap.size, 1, none⟩ = some (.int .i64 (k : Nat)) := (bt.cell (p := ⟨w.heap.size, 1, none⟩) zb).trans x1
    have t2 : wt.cell? ⟨w.heap.size, 2, none⟩ = some (.int .u64 (seed : Nat)) := (bt.cell (p := ⟨w.heap.size, 2, none⟩) zb).trans x2
    have t4 : wt.cell? ⟨w.heap.size, 4, none⟩ = some (.slice a1 n1 c1) := (bt.cell (p := ⟨w.heap.size, 4, none⟩) zb).trans x4
    have tg := (bt.block w.heap.size zb).trans gx
    have tr := (bt.block (w.heap.size + 1) z1).trans gr
    have zt : w.heap.size + 1 < wt.heap.size := Nat.lt_of_lt_of_le z1 bt.size
    have bw := below_then t6 bt
    go_wp2_with fail
    refine hK.out _ _ (⟨t0, t1, t2⟩) (fun hHeld => ?_)
    clear hK K
    try simp only [Act.put, List.setIfInBounds_toArray, List.set_cons_zero, List.set_cons_succ]
    refine wpAnyH_ready (rs := [6]) (by kernel_rfl) (by simp) ?_
    refine AllReadyH.cons rfl (fun K hK => ?_) (AllReadyH.nil)
    go_simp
    refine hK.out _ _ (⟨t0, t1, t2⟩) (fun hHeld => ?_)
    clear hK K
    try simp only [Act.put, List.setIfInBounds_toArray, List.set_cons_zero, List.set_cons_succ]
    refine wpAnyH_ready (rs := [15]) (by kernel_rfl) (by simp) ?_
    refine AllReadyH.cons rfl (fun K hK => ?_) (AllReadyH.nil)
    go_simp
    refine (hW _ bw _ _ hip).mono ?_
    rintro e ws ⟨wa, wn, wcp, rfl, hws, bs, wfr⟩
    have sg := (bs.block w.heap.size (Nat.lt_of_succ_lt zt)).trans tg
    have sr := (bs.block (w.heap.size + 1) zt).trans tr
    have sf := frozen_of_row ws _ 4 _ _ sg
    have bsw := below_then bw bs
    have s0 : ws.cell? ⟨w.heap.size, 0, none⟩ = some (.int .i64 (m : Nat)) := (bs.cell (p := ⟨w.heap.size, 0, none⟩) (Nat.lt_of_succ_lt zt)).trans t0
    have s1 : ws.cell? ⟨w.heap.size, 1, none⟩ = some (.int .i64 (k : Nat)) := (bs.cell (p := ⟨w.heap.size, 1, none⟩) (Nat.lt_of_succ_lt zt)).trans t1
    have s2 : ws.cell? ⟨w.heap.size, 2, none⟩ = some (.int .u64 (seed : Nat)) := (bs.cell (p := ⟨w.heap.size, 2, none⟩) (Nat.lt_of_succ_lt zt)).trans t2
    have s4 : ws.cell? ⟨w.heap.size, 4, none⟩ = some (.slice a1 n1 c1) := (bs.cell (p := ⟨w.heap.size, 4, none⟩) (Nat.lt_of_succ_lt zt)).trans t4
    go_wp2_with fail
    refine hK.out _ _ (⟨s0, s1, s2⟩) (fun hHeld => ?_)
    clear hK K
    try simp only [Act.put, List.setIfInBounds_toArray, List.set_cons_zero, List.set_cons_succ]
    refine wpAnyH_take (i := 17) (v := ?_) rfl (by kernel_rfl) (by kernel_rfl) (by kernel_rfl) (fun _ _ _ h => h) (Or.inl ⟨by rfl, ?_⟩) (by assumption) ?_
    rotate_left
    · (intro wq hSw; (try dsimp only at hSw); go_simp; try with_reducible rfl)
    try simp only [Act.put, List.setIfInBounds_toArray, List.set_cons_zero, List.set_cons_succ]
    refine wpAnyH_ready (rs := [18]) (by kernel_rfl) (by simp) ?_
    refine AllReadyH.cons rfl (fun K hK => ?_) (AllReadyH.nil)
    go_simp
    refine hK.out _ _ (by have hq := Joins.block_setCell (i := 4) sg (.slice wa wn wcp); exact ⟨cell_of_row _ _ 0 _ _ _ hq, cell_of_row _ _ 1 _ _ _ hq, cell_of_row _ _ 2 _ _ _ hq⟩) (fun hHeld => ?_)
    clear hK K
    try simp only [Act.put, List.setIfInBounds_toArray, List.set_cons_zero, List.set_cons_succ]
    refine wpAnyH_done (by kernel_rfl) ?_ _
    refine NoPanic.normal ?_
    have sg3 := Joins.block_setCell (i := 4) sg (.slice wa wn wcp)
    have sr3 : (ws.setCell ⟨w.heap.size, 4, none⟩ (.slice wa wn wcp)).heap[w.heap.size + 1]? = some (.cells #[.int .i64 0, .int .i64 0, .int .u64 0, .slice none 0 0, .slice none 0 0, .slice none 0 0] 38 (0, 0)) := (Below.heap_setCell _ _ _ _ (by show w.heap.size + 1 ≠ w.heap.size; omega)).trans sr
    have b3 := bsw.setCell (Nat.le_refl _) (p := ⟨w.heap.size, 4, none⟩) (.slice wa wn wcp)
    go_wp2_with (first | (refine wpList_load_row rfl 38 _ rfl w.heap.size rfl 38 _ _ _ sg3 Try.underlying38 rfl (by kernel_rfl) ?_) | (refine store_rec rfl 38 (.tmp 6) (.tmp 40) rfl (w.heap.size + 1) #[.int .i64 (m : Nat), .int .i64 (k : Nat), .int .u64 (seed : Nat), .slice a0 n0 c0, .slice wa wn wcp, .slice a2 n2 c2] rfl rfl 38 _ sr3 (by kernel_rfl) rfl (by simp [Value.oneCell']) ?_; intro w6 g6 z6 o6 b6))
    have q0 := cell_of_row w6 (w.heap.size + 1) 0 _ _ _ g6
    have q1 := cell_of_row w6 (w.heap.size + 1) 1 _ _ _ g6
    have q2 := cell_of_row w6 (w.heap.size + 1) 2 _ _ _ g6
    have q3 := cell_of_row w6 (w.heap.size + 1) 3 _ _ _ g6
    have q4 := cell_of_row w6 (w.heap.size + 1) 4 _ _ _ g6
    have q5 := cell_of_row w6 (w.heap.size + 1) 5 _ _ _ g6
    simp at q0 q1 q2 q3 q4 q5
    have b6w : Below w.heap.size w w6 := b3.trans (b6.mono (by omega))
    have hz6 : ws.heap.size ≤ w6.heap.size := by rw [z6, World.size_setCell]; exact Nat.le_refl _
    have hN6 := hws.off (w' := w6) (fun x hx => by have := wfr x hx; exact (o6 _ (by omega)).trans (Below.heap_setCell _ _ _ _ (by show x.block ≠ w.heap.size; omega))) hz6
    exact bodyPost_ret (v := .tuple #[.agg #[.int .i64 (m : Nat), .int .i64 (k : Nat), .int .u64 (seed : Nat), .slice a0 n0 c0, .slice wa wn wcp, .slice a2 n2 c2], .int .i64 0]) (by simp [results, Try.results14, go_sem, q0, q1, q2, q3, q4, q5]) rfl ⟨⟨_, rfl, ⟨⟨a0, wa, a2, n0, wn, n2, c0, wcp, c2, rfl, h0.mono b6w, hN6, h2.mono b6w⟩, m1, m2, k1, k2, sd⟩, fun Q hQ hv => offAt_row.2 ⟨(offAt_row.1 hv).1, fun x hx => hQ _ (by have := wfr x hx; omega), (offAt_row.1 hv).2.2⟩⟩, b6w⟩

set_option maxRecDepth 100000 in
set_option maxHeartbeats 4000000 in
theorem refSet1_none (w : World) (m k seed : Nat) (v : Value) (on0 on1 on2 : List Nat) (ka : Option Addr) (kl kc : Nat) (key : List Nat) (hb : RefAt w m k seed v on0 on1 on2) (hk : BytesAt w ka kl kc key) (hall : (placesN key seed m k).all (fun p => decide (p ∈ on0)) = false) :
    Calls Try.prog 14 #[v, .slice ka kl kc, .int .i64 1] w fun e w' => e = .returned (.tuple #[v, .int .i64 10]) ∧ Below w.heap.size w w' := by
  obtain ⟨a0, a1, a2, n0, n1, n2, c0, c1, c2, rfl, h0, h1, h2⟩ := hb.val
  have bA : ∀ o o' : Obj, Below w.heap.size w ((w.alloc o).alloc o') := fun o o' => ((Below.refl _ _).alloc (Nat.le_refl _) _).alloc (by simp) _
  have hF := fun (w' : World) (h : Below w.heap.size w w') => refMember_any w' m k seed _ on0 on1 on2 ka kl kc key (hb.mono h) (hk.mono h)
  rw [hall] at hF
  clear hb h0 h1 h2 hall
  go_enter Try.func14, Try.ntmps14
  go_wp2_with fail
  refine (hF _ (bA _ _)).mono ?_
  rintro e w1 ⟨rfl, b1⟩
  have t5 := below_then (bA _ _) b1
  have gx : w1.heap[w.heap.size]? = some (.cells #[.int .i64 (m : Nat), .int .i64 (k : Nat), .int .u64 (seed : Nat), .slice a0 n0 c0, .slice a1 n1 c1, .slice a2 n2 c2] 38 (0, 0)) := (b1.block w.heap.size (by simp; omega)).trans (heap2a w _ _)
  have gr : w1.heap[w.heap.size + 1]? = some (.cells #[.int .i64 0, .int .i64 0, .int .u64 0, .slice none 0 0, .slice none 0 0, .slice none 0 0] 38 (0, 0)) := (b1.block (w.heap.size + 1) (by simp)).trans (heap2b w _ _)
  clear hF b1
  go_wp2_with (first | (refine wpList_load_row rfl 38 _ rfl w.heap.size rfl 38 _ _ _ gx Try.underlying38 rfl (by kernel_rfl) ?_) | (refine store_rec rfl 38 (.tmp 6) (.tmp 21) rfl (w.heap.size + 1) #[.int .i64 (m : Nat), .int .i64 (k : Nat), .int .u64 (seed : Nat), .slice a0 n0 c0, .slice a1 n1 c1, .slice a2 n2 c2] rfl rfl 38 _ gr (by kernel_rfl) rfl (by simp [Value.oneCell']) ?_; intro w6 g6 z6 o6 b6))
  have q0 := cell_of_row w6 (w.heap.size + 1) 0 _ _ _ g6
  have q1 := cell_of_row w6 (w.heap.size + 1) 1 _ _ _ g6
  have q2 := cell_of_row w6 (w.heap.size + 1) 2 _ _ _ g6
  have q3 := cell_of_row w6 (w.heap.size + 1) 3 _ _ _ g6
  have q4 := cell_of_row w6 (w.heap.size + 1) 4 _ _ _ g6
  have q5 := cell_of_row w6 (w.heap.size + 1) 5 _ _ _ g6
  simp at q0 q1 q2 q3 q4 q5
  exact bodyPost_ret (v := .tuple #[.agg #[.int .i64 (m : Nat), .int .i64 (k : Nat), .int .u64 (seed : Nat), .slice a0 n0 c0, .slice a1 n1 c1, .slice a2 n2 c2], .int .i64 10]) (by simp [results, Try.results14, go_sem, q0, q1, q2, q3, q4, q5]) rfl ⟨rfl, t5.trans (b6.mono (by omega))⟩

set_option maxRecDepth 100000 in
set_option maxHeartbeats 8000000 in
theorem refSet1_ok (w : World) (m k seed : Nat) (v : Value) (on0 on1 on2 : List Nat) (ka : Option Addr) (kl kc : Nat) (key : List Nat) (hb : RefAt w m k seed v on0 on1 on2) (hk : BytesAt w ka kl kc key) (hl : on2.length ≤ 500000) (hall : (placesN key seed m k).all (fun p => decide (p ∈ on0)) = true) :
    Calls Try.prog 14 #[v, .slice ka kl kc, .int .i64 1] w fun e w' => (∃ v', e = .returned (.tuple #[v', .int .i64 0]) ∧ RefAt w' m k seed v' on0 on1 (withV on2 (placesN key seed m k)) ∧ (∀ Q : Nat → Prop, (∀ b, w.heap.size ≤ b → Q b) → OffAt Q v → OffAt Q v')) ∧ Below w.heap.size w w' := by
  have m1 := hb.m1
  have m2 := hb.m2
  have k1 := hb.k1
  have k2 := hb.k2
  have sd := hb.sd
  obtain ⟨a0, a1, a2, n0, n1, n2, c0, c1, c2, rfl, h0, h1, h2⟩ := hb.val
  have bA : ∀ o o' : Obj, Below w.heap.size w ((w.alloc o).alloc o') := fun o o' => ((Below.refl _ _).alloc (Nat.le_refl _) _).alloc (by simp) _
  have hF := fun (w' : World) (h : Below w.heap.size w w') => refMember_any w' m k seed _ on0 on1 on2 ka kl kc key (hb.mono h) (hk.mono h)
  rw [hall] at hF
  have hn0 := h2.len_eq
  obtain ⟨ps, hps⟩ : ∃ ps, placesN key seed m k = ps := ⟨_, rfl⟩
  have hP := fun (w' : World) (h : Below w.heap.size w w') => refPlacesN w' ka kl kc key seed m k sd m2 k1 k2 (hk.mono h)
  rw [hps] at hP ⊢
  have hW := fun (w' : World) (h : Below w.heap.size w w') (pa : Option Addr) (pc : Nat) (hp : NatsAt w' pa k pc ps) => with_any w' a2 n2 c2 on2 pa k pc ps (h2.mono h) hp (by omega)
  clear hps hb hn0 hl hall
  go_enter Try.func14, Try.ntmps14
  go_wp2_with fail
  refine (hF _ (bA _ _)).mono ?_
  rintro e w1 ⟨rfl, b1⟩
  have t5 := below_then (bA _ _) b1
  have gx : w1.heap[w.heap.size]? = some (.cells #[.int .i64 (m : Nat), .int .i64 (k : Nat), .int .u64 (seed : Nat), .slice a0 n0 c0, .slice a1 n1 c1, .slice a2 n2 c2] 38 (0, 0)) := (b1.block w.heap.size (by simp; omega)).trans (heap2a w _ _)
  have gr : w1.heap[w.heap.size + 1]? = some (.cells #[.int .i64 0, .int .i64 0, .int .u64 0, .slice none 0 0, .slice none 0 0, .slice none 0 0] 38 (0, 0)) := (b1.block (w.heap.size + 1) (by simp)).trans (heap2b w _ _)
  have t6 := t5.drew
  have z1 : w.heap.size + 1 < w1.drew.heap.size := Nat.lt_of_lt_of_le (by simp) b1.size
  have x0 : w1.drew.cell? ⟨w.heap.size, 0, none⟩ = some (.int .i64 (m : Nat)) := cell_of_row w1 _ 0 _ _ _ gx
  have x1 : w1.drew.cell? ⟨w.heap.size, 1, none⟩ = some (.int .i64 (k : Nat)) := cell_of_row w1 _ 1 _ _ _ gx
  have x2 : w1.drew.cell? ⟨w.heap.size, 2, none⟩ = some (.int .u64 (seed : Nat)) := cell_of_row w1 _ 2 _ _ _ gx
  have x5 : w1.drew.cell? ⟨w.heap.size, 5, none⟩ = some (.slice a2 n2 c2) := cell_of_row w1 _ 5 _ _ _ gx
  have e1 : IntKind.i64.wrap (2 : Int) = 2 := by decide
  clear hF
  go_wp2_with fail
  refine wp_region_noPanic ?_
  refine wp_region_held_drew (S := fun w' => w'.cell? ⟨w.heap.size, 0, none⟩ = some (.int .i64 (m : Nat)) ∧ w'.cell? ⟨w.heap.size, 1, none⟩ = some (.int .i64 (k : Nat)) ∧ w'.cell? ⟨w.heap.size, 2, none⟩ = some (.int .u64 (seed : Nat))) (by kernel_rfl) ⟨x0, x1, x2⟩ (fun hHeld => ?_)
  refine wpAnyH_take (i := 0) (v := ?_) rfl (by kernel_rfl) (by kernel_rfl) (by kernel_rfl) (fun _ _ _ h => h) (Or.inl ⟨by rfl, ?_⟩) (by assumption) ?_
  rotate_left
  · (intro wq hSw; (try dsimp only at hSw); go_simp; try with_reducible rfl)
  try simp only [Act.put, List.setIfInBounds_toArray, List.set_cons_zero, List.set_cons_succ]
  refine wpAnyH_take (i := 1) (v := ?_) rfl (by kernel_rfl) (by kernel_rfl) (by kernel_rfl) (fun _ _ _ h => h) (Or.inl ⟨by rfl, ?_⟩) (by assumption) ?_
  rotate_left
  · (intro wq hSw; (try dsimp only at hSw); go_simp; try with_reducible rfl)
  try simp only [Act.put, List.setIfInBounds_toArray, List.set_cons_zero, List.set_cons_succ]
  refine wpAnyH_take (i := 2) (v := ?_) rfl (by kernel_rfl) (by kernel_rfl) (by kernel_rfl) (fun _ _ _ h => h) (Or.inl ⟨by rfl, ?_⟩) (by assumption) ?_
  rotate_left
  · (intro wq hSw; (try dsimp only at hSw); go_simp; try with_reducible rfl)
  try simp only [Act.put, List.setIfInBounds_toArray, List.set_cons_zero, List.set_cons_succ]
  refine wpAnyH_take (i := 3) (v := ?_) rfl (by kernel_rfl) (by kernel_rfl) (by kernel_rfl) (fun _ _ _ h => h) (Or.inl ⟨by rfl, ?_⟩) (by assumption) ?_
  rotate_left
  · (intro wq hSw; (try dsimp only at hSw); go_simp; try with_reducible rfl)
  try simp only [Act.put, List.setIfInBounds_toArray, List.set_cons_zero, List.set_cons_succ]
  refine wpAnyH_take (i := 4) (v := ?_) rfl (by kernel_rfl) (by kernel_rfl) (by kernel_rfl) (fun _ _ _ h => h) (Or.inl ⟨by rfl, ?_⟩) (by assumption) ?_
  rotate_left
  · (intro wq hSw; (try dsimp only at hSw); go_simp; try with_reducible rfl)
  try simp only [Act.put, List.setIfInBounds_toArray, List.set_cons_zero, List.set_cons_succ]
  refine wpAnyH_take (i := 5) (v := ?_) rfl (by kernel_rfl) (by kernel_rfl) (by kernel_rfl) (fun _ _ _ h => h) (Or.inl ⟨by rfl, ?_⟩) (by assumption) ?_
  rotate_left
  · (intro wq hSw; (try dsimp only at hSw); go_simp; try with_reducible rfl)
  try simp only [Act.put, List.setIfInBounds_toArray, List.set_cons_zero, List.set_cons_succ]
  refine wpAnyH_take (i := 7) (v := ?_) rfl (by kernel_rfl) (by kernel_rfl) (by kernel_rfl) (fun _ _ _ h => h) (Or.inl ⟨by rfl, ?_⟩) (by assumption) ?_
  rotate_left
  · (intro wq hSw; (try dsimp only at hSw); go_simp; try with_reducible rfl)
  try simp only [Act.put, List.setIfInBounds_toArray, List.set_cons_zero, List.set_cons_succ]
  refine wpAnyH_take (i := 8) (v := ?_) rfl (by kernel_rfl) (by kernel_rfl) (by kernel_rfl) (fun _ _ _ h => h) (Or.inl ⟨by rfl, ?_⟩) (by assumption) ?_
  rotate_left
  · (intro wq hSw; (try dsimp only at hSw); go_simp; try with_reducible rfl)
  try simp only [Act.put, List.setIfInBounds_toArray, List.set_cons_zero, List.set_cons_succ]
  refine wpAnyH_take (i := 9) (v := ?_) rfl (by kernel_rfl) (by kernel_rfl) (by kernel_rfl) (fun _ _ _ h => h) (Or.inl ⟨by rfl, ?_⟩) (by assumption) ?_
  rotate_left
  · (intro wq hSw; (try dsimp only at hSw); go_simp; try with_reducible rfl)
  try simp only [Act.put, List.setIfInBounds_toArray, List.set_cons_zero, List.set_cons_succ]
  refine wpAnyH_take (i := 10) (v := ?_) rfl (by kernel_rfl) (by kernel_rfl) (by kernel_rfl) (fun _ _ _ h => h) (Or.inl ⟨by rfl, ?_⟩) (by assumption) ?_
  rotate_left
  · (intro wq hSw; (try dsimp only at hSw); go_simp; try with_reducible rfl)
  try simp only [Act.put, List.setIfInBounds_toArray, List.set_cons_zero, List.set_cons_succ]
  refine wpAnyH_take (i := 11) (v := ?_) rfl (by kernel_rfl) (by kernel_rfl) (by kernel_rfl) (fun _ _ _ h => h) (Or.inl ⟨by rfl, ?_⟩) (by assumption) ?_
  rotate_left
  · (intro wq hSw; (try dsimp only at hSw); go_simp; try with_reducible rfl)
  try simp only [Act.put, List.setIfInBounds_toArray, List.set_cons_zero, List.set_cons_succ]
  refine wpAnyH_take (i := 12) (v := ?_) rfl (by kernel_rfl) (by kernel_rfl) (by kernel_rfl) (fun _ _ _ h => h) (Or.inl ⟨by rfl, ?_⟩) (by assumption) ?_
  rotate_left
  · (intro wq hSw; (try dsimp only at hSw); go_simp; try with_reducible rfl)
  try simp only [Act.put, List.setIfInBounds_toArray, List.set_cons_zero, List.set_cons_succ]
  refine wpAnyH_take (i := 13) (v := ?_) rfl (by kernel_rfl) (by kernel_rfl) (by kernel_rfl) (fun _ _ _ h => h) (Or.inl ⟨by rfl, ?_⟩) (by assumption) ?_
  rotate_left
  · (intro wq hSw; (try dsimp only at hSw); go_simp; try with_reducible rfl)
  try simp only [Act.put, List.setIfInBounds_toArray, List.set_cons_zero, List.set_cons_succ]
  refine wpAnyH_take (i := 16) (v := ?_) rfl (by kernel_rfl) (by kernel_rfl) (by kernel_rfl) (fun _ _ _ h => h) (Or.inl ⟨by rfl, ?_⟩) (by assumption) ?_
  rotate_left
  · (intro wq hSw; (try dsimp only at hSw); go_simp; try with_reducible rfl)
  try simp only [Act.put, List.setIfInBounds_toArray, List.set_cons_zero, List.set_cons_succ]
  refine wpAnyH_ready (rs := [6, 14]) (by kernel_rfl) (by simp) ?_
  refine AllReadyH.cons rfl (fun K hK => ?_) (AllReadyH.cons rfl (fun K hK => ?_) (AllReadyH.nil))
  · go_simp
    refine hK.out _ _ (⟨x0, x1, x2⟩) (fun hHeld => ?_)
    clear hK K
    try simp only [Act.put, List.setIfInBounds_toArray, List.set_cons_zero, List.set_cons_succ]
    refine wpAnyH_ready (rs := [14]) (by kernel_rfl) (by simp) ?_
    refine AllReadyH.cons rfl (fun K hK => ?_) (AllReadyH.nil)
    go_simp
    refine (hP _ t6).mono ?_
    rintro e wt ⟨pa, pc, rfl, hip, bt⟩
    have zb : w.heap.size < w1.drew.heap.size := Nat.lt_of_succ_lt z1
    have t0 : wt.cell? ⟨w.heap.size, 0, none⟩ = some (.int .i64 (m : Nat)) := (bt.cell (p := ⟨w.heap.size, 0, none⟩) zb).trans x0
    have t1 : wt.cell? ⟨w.heap.size, 1, none⟩ = some (.int .i64 (k : Nat)) := (bt.cell (p := ⟨w.heap.size, 1, none⟩) zb).trans x1
    have t2 : wt.cell? ⟨w.heap.size, 2, none⟩ = some (.int .u64 (seed : Nat)) := (bt.cell (p := ⟨w.heap.size, 2, none⟩) zb).trans x2
    have t5 : wt.cell? ⟨w.heap.size, 5, none⟩ = some (.slice a2 n2 c2) := (bt.cell (p := ⟨w.heap.size, 5, none⟩) zb).trans x5
    have tg := (bt.block w.heap.size zb).trans gx
    have tr := (bt.block (w.heap.size + 1) z1).trans gr
    have zt : w.heap.size + 1 < wt.heap.size := Nat.lt_of_lt_of_le z1 bt.size
    have bw := below_then t6 bt
    go_wp2_with fail
    refine hK.out _ _ (⟨t0, t1, t2⟩) (fun hHeld => ?_)
    clear hK K
    try simp only [Act.put, List.setIfInBounds_toArray, List.set_cons_zero, List.set_cons_succ]
    refine wpAnyH_ready (rs := [15]) (by kernel_rfl) (by simp) ?_
    refine AllReadyH.cons rfl (fun K hK => ?_) (AllReadyH.nil)
    go_simp
    refine (hW _ bw _ _ hip).mono ?_
    rintro e ws ⟨wa, wn, wcp, rfl, hws, bs, wfr⟩
    have sg := (bs.block w.heap.size (Nat.lt_of_succ_lt zt)).trans tg
    have sr := (bs.block (w.heap.size + 1) zt).trans tr
    have sf := frozen_of_row ws _ 5 _ _ sg
    have bsw := below_then bw bs
    have s0 : ws.cell? ⟨w.heap.size, 0, none⟩ = some (.int .i64 (m : Nat)) := (bs.cell (p := ⟨w.heap.size, 0, none⟩) (Nat.lt_of_succ_lt zt)).trans t0
    have s1 : ws.cell? ⟨w.heap.size, 1, none⟩ = some (.int .i64 (k : Nat)) := (bs.cell (p := ⟨w.heap.size, 1, none⟩) (Nat.lt_of_succ_lt zt)).trans t1
    have s2 : ws.cell? ⟨w.heap.size, 2, none⟩ = some (.int .u64 (seed : Nat)) := (bs.cell (p := ⟨w.heap.size, 2, none⟩) (Nat.lt_of_succ_lt zt)).trans t2
    have s5 : ws.cell? ⟨w.heap.size, 5, none⟩ = some (.slice a2 n2 c2) := (bs.cell (p := ⟨w.heap.size, 5, none⟩) (Nat.lt_of_succ_lt zt)).trans t5
    go_wp2_with fail
    refine hK.out _ _ (⟨s0, s1, s2⟩) (fun hHeld => ?_)
    clear hK K
    try simp only [Act.put, List.setIfInBounds_toArray, List.set_cons_zero, List.set_cons_succ]
    refine wpAnyH_take (i := 17) (v := ?_) rfl (by kernel_rfl) (by kernel_rfl) (by kernel_rfl) (fun _ _ _ h => h) (Or.inl ⟨by rfl, ?_⟩) (by assumption) ?_
    rotate_left
    · (intro wq hSw; (try dsimp only at hSw); go_simp; try with_reducible rfl)
    try simp only [Act.put, List.setIfInBounds_toArray, List.set_cons_zero, List.set_cons_succ]
    refine wpAnyH_ready (rs := [18]) (by kernel_rfl) (by simp) ?_
    refine AllReadyH.cons rfl (fun K hK => ?_) (AllReadyH.nil)
    go_simp
    refine hK.out _ _ (by have hq := Joins.block_setCell (i := 5) sg (.slice wa wn wcp); exact ⟨cell_of_row _ _ 0 _ _ _ hq, cell_of_row _ _ 1 _ _ _ hq, cell_of_row _ _ 2 _ _ _ hq⟩) (fun hHeld => ?_)
    clear hK K
    try simp only [Act.put, List.setIfInBounds_toArray, List.set_cons_zero, List.set_cons_succ]
    refine wpAnyH_done (by kernel_rfl) ?_ _
    refine NoPanic.normal ?_
    have sg3 := Joins.block_setCell (i := 5) sg (.slice wa wn wcp)
    have sr3 : (ws.setCell ⟨w.heap.size, 5, none⟩ (.slice wa wn wcp)).heap[w.heap.size + 1]? = some (.cells #[.int .i64 0, .int .i64 0, .int .u64 0, .slice none 0 0, .slice none 0 0, .slice none 0 0] 38 (0, 0)) := (Below.heap_setCell _ _ _ _ (by show w.heap.size + 1 ≠ w.heap.size; omega)).trans sr
    have b3 := bsw.setCell (Nat.le_refl _) (p := ⟨w.heap.size, 5, none⟩) (.slice wa wn wcp)
    go_wp2_with (first | (refine wpList_load_row rfl 38 _ rfl w.heap.size rfl 38 _ _ _ sg3 Try.underlying38 rfl (by kernel_rfl) ?_) | (refine store_rec rfl 38 (.tmp 6) (.tmp 40) rfl (w.heap.size + 1) #[.int .i64 (m : Nat), .int .i64 (k : Nat), .int .u64 (seed : Nat), .slice a0 n0 c0, .slice a1 n1 c1, .slice wa wn wcp] rfl rfl 38 _ sr3 (by kernel_rfl) rfl (by simp [Value.oneCell']) ?_; intro w6 g6 z6 o6 b6))
    have q0 := cell_of_row w6 (w.heap.size + 1) 0 _ _ _ g6
    have q1 := cell_of_row w6 (w.heap.size + 1) 1 _ _ _ g6
    have q2 := cell_of_row w6 (w.heap.size + 1) 2 _ _ _ g6
    have q3 := cell_of_row w6 (w.heap.size + 1) 3 _ _ _ g6
    have q4 := cell_of_row w6 (w.heap.size + 1) 4 _ _ _ g6
    have q5 := cell_of_row w6 (w.heap.size + 1) 5 _ _ _ g6
    simp at q0 q1 q2 q3 q4 q5
    have b6w : Below w.heap.size w w6 := b3.trans (b6.mono (by omega))
    have hz6 : ws.heap.size ≤ w6.heap.size := by rw [z6, World.size_setCell]; exact Nat.le_refl _
    have hN6 := hws.off (w' := w6) (fun x hx => by have := wfr x hx; exact (o6 _ (by omega)).trans (Below.heap_setCell _ _ _ _ (by show x.block ≠ w.heap.size; omega))) hz6
    exact bodyPost_ret (v := .tuple #[.agg #[.int .i64 (m : Nat), .int .i64 (k : Nat), .int .u64 (seed : Nat), .slice a0 n0 c0, .slice a1 n1 c1, .slice wa wn wcp], .int .i64 0]) (by simp [results, Try.results14, go_sem, q0, q1, q2, q3, q4, q5]) rfl ⟨⟨_, rfl, ⟨⟨a0, a1, wa, n0, n1, wn, c0, c1, wcp, rfl, h0.mono b6w, h1.mono b6w, hN6⟩, m1, m2, k1, k2, sd⟩, fun Q hQ hv => offAt_row.2 ⟨(offAt_row.1 hv).1, (offAt_row.1 hv).2.1, fun x hx => hQ _ (by have := wfr x hx; omega)⟩⟩, b6w⟩
  · go_simp
    refine (hP _ t6).mono ?_
    rintro e wt ⟨pa, pc, rfl, hip, bt⟩
    have zb : w.heap.size < w1.drew.heap.size := Nat.lt_of_succ_lt z1
    have t0 : wt.cell? ⟨w.heap.size, 0, none⟩ = some (.int .i64 (m : Nat)) := (bt.cell (p := ⟨w.heap.size, 0, none⟩) zb).trans x0
    have t1 : wt.cell? ⟨w.heap.size, 1, none⟩ = some (.int .i64 (k : Nat)) := (bt.cell (p := ⟨w.heap.size, 1, none⟩) zb).trans x1
    have t2 : wt.cell? ⟨w.heap.size, 2, none⟩ = some (.int .u64 (seed : Nat)) := (bt.cell (p := ⟨w.heap.size, 2, none⟩) zb).trans x2
    have t5 : wt.cell? ⟨w.heap.size, 5, none⟩ = some (.slice a2 n2 c2) := (bt.cell (p := ⟨w.heap.size, 5, none⟩) zb).trans x5
    have tg := (bt.block w.heap.size zb).trans gx
    have tr := (bt.block (w.heap.size + 1) z1).trans gr
    have zt : w.heap.size + 1 < wt.heap.size := Nat.lt_of_lt_of_le z1 bt.size
    have bw := below_then t6 bt
    go_wp2_with fail
    refine hK.out _ _ (⟨t0, t1, t2⟩) (fun hHeld => ?_)
    clear hK K
    try simp only [Act.put, List.setIfInBounds_toArray, List.set_cons_zero, List.set_cons_succ]
    refine wpAnyH_ready (rs := [6]) (by kernel_rfl) (by simp) ?_
    refine AllReadyH.cons rfl (fun K hK => ?_) (AllReadyH.nil)
    go_simp
    refine hK.out _ _ (⟨t0, t1, t2⟩) (fun hHeld => ?_)
    clear hK K
    try simp only [Act.put, List.setIfInBounds_toArray, List.set_cons_zero, List.set_cons_succ]
    refine wpAnyH_ready (rs := [15]) (by kernel_rfl) (by simp) ?_
    refine AllReadyH.cons rfl (fun K hK => ?_) (AllReadyH.nil)
    go_simp
    refine (hW _ bw _ _ hip).mono ?_
    rintro e ws ⟨wa, wn, wcp, rfl, hws, bs, wfr⟩
    have sg := (bs.block w.heap.size (Nat.lt_of_succ_lt zt)).trans tg
    have sr := (bs.block (w.heap.size + 1) zt).trans tr
    have sf := frozen_of_row ws _ 5 _ _ sg
    have bsw := below_then bw bs
    have s0 : ws.cell? ⟨w.heap.size, 0, none⟩ = some (.int .i64 (m : Nat)) := (bs.cell (p := ⟨w.heap.size, 0, none⟩) (Nat.lt_of_succ_lt zt)).trans t0
    have s1 : ws.cell? ⟨w.heap.size, 1, none⟩ = some (.int .i64 (k : Nat)) := (bs.cell (p := ⟨w.heap.size, 1, none⟩) (Nat.lt_of_succ_lt zt)).trans t1
    have s2 : ws.cell? ⟨w.heap.size, 2, none⟩ = some (.int .u64 (seed : Nat)) := (bs.cell (p := ⟨w.heap.size, 2, none⟩) (Nat.lt_of_succ_lt zt)).trans t2
    have s5 : ws.cell? ⟨w.heap.size, 5, none⟩ = some (.slice a2 n2 c2) := (bs.cell (p := ⟨w.heap.size, 5, none⟩) (Nat.lt_of_succ_lt zt)).trans t5
    go_wp2_with fail
    refine hK.out _ _ (⟨s0, s1, s2⟩) (fun hHeld => ?_)
    clear hK K
    try simp only [Act.put, List.setIfInBounds_toArray, List.set_cons_zero, List.set_cons_succ]
    refine wpAnyH_take (i := 17) (v := ?_) rfl (by kernel_rfl) (by kernel_rfl) (by kernel_rfl) (fun _ _ _ h => h) (Or.inl ⟨by rfl, ?_⟩) (by assumption) ?_
    rotate_left
    · (intro wq hSw; (try dsimp only at hSw); go_simp; try with_reducible rfl)
    try simp only [Act.put, List.setIfInBounds_toArray, List.set_cons_zero, List.set_cons_succ]
    refine wpAnyH_ready (rs := [18]) (by kernel_rfl) (by simp) ?_
    refine AllReadyH.cons rfl (fun K hK => ?_) (AllReadyH.nil)
    go_simp
    refine hK.out _ _ (by have hq := Joins.block_setCell (i := 5) sg (.slice wa wn wcp); exact ⟨cell_of_row _ _ 0 _ _ _ hq, cell_of_row _ _ 1 _ _ _ hq, cell_of_row _ _ 2 _ _ _ hq⟩) (fun hHeld => ?_)
    clear hK K
    try simp only [Act.put, List.setIfInBounds_toArray, List.set_cons_zero, List.set_cons_succ]
    refine wpAnyH_done (by kernel_rfl) ?_ _
    refine NoPanic.normal ?_
    have sg3 := Joins.block_setCell (i := 5) sg (.slice wa wn wcp)
    have sr3 : (ws.setCell ⟨w.heap.size, 5, none⟩ (.slice wa wn wcp)).heap[w.heap.size + 1]? = some (.cells #[.int .i64 0, .int .i64 0, .int .u64 0, .slice none 0 0, .slice none 0 0, .slice none 0 0] 38 (0, 0)) := (Below.heap_setCell _ _ _ _ (by show w.heap.size + 1 ≠ w.heap.size; omega)).trans sr
    have b3 := bsw.setCell (Nat.le_refl _) (p := ⟨w.heap.size, 5, none⟩) (.slice wa wn wcp)
    go_wp2_with (first | (refine wpList_load_row rfl 38 _ rfl w.heap.size rfl 38 _ _ _ sg3 Try.underlying38 rfl (by kernel_rfl) ?_) | (refine store_rec rfl 38 (.tmp 6) (.tmp 40) rfl (w.heap.size + 1) #[.int .i64 (m : Nat), .int .i64 (k : Nat), .int .u64 (seed : Nat), .slice a0 n0 c0, .slice a1 n1 c1, .slice wa wn wcp] rfl rfl 38 _ sr3 (by kernel_rfl) rfl (by simp [Value.oneCell']) ?_; intro w6 g6 z6 o6 b6))
    have q0 := cell_of_row w6 (w.heap.size + 1) 0 _ _ _ g6
    have q1 := cell_of_row w6 (w.heap.size + 1) 1 _ _ _ g6
    have q2 := cell_of_row w6 (w.heap.size + 1) 2 _ _ _ g6
    have q3 := cell_of_row w6 (w.heap.size + 1) 3 _ _ _ g6
    have q4 := cell_of_row w6 (w.heap.size + 1) 4 _ _ _ g6
    have q5 := cell_of_row w6 (w.heap.size + 1) 5 _ _ _ g6
    simp at q0 q1 q2 q3 q4 q5
    have b6w : Below w.heap.size w w6 := b3.trans (b6.mono (by omega))
    have hz6 : ws.heap.size ≤ w6.heap.size := by rw [z6, World.size_setCell]; exact Nat.le_refl _
    have hN6 := hws.off (w' := w6) (fun x hx => by have := wfr x hx; exact (o6 _ (by omega)).trans (Below.heap_setCell _ _ _ _ (by show x.block ≠ w.heap.size; omega))) hz6
    exact bodyPost_ret (v := .tuple #[.agg #[.int .i64 (m : Nat), .int .i64 (k : Nat), .int .u64 (seed : Nat), .slice a0 n0 c0, .slice a1 n1 c1, .slice wa wn wcp], .int .i64 0]) (by simp [results, Try.results14, go_sem, q0, q1, q2, q3, q4, q5]) rfl ⟨⟨_, rfl, ⟨⟨a0, a1, wa, n0, n1, wn, c0, c1, wcp, rfl, h0.mono b6w, h1.mono b6w, hN6⟩, m1, m2, k1, k2, sd⟩, fun Q hQ hv => offAt_row.2 ⟨(offAt_row.1 hv).1, (offAt_row.1 hv).2.1, fun x hx => hQ _ (by have := wfr x hx; omega)⟩⟩, b6w⟩

end Go.Proofs.Ytcnpomejdnpegaa
