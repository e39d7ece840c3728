/- blur.Set, Get (by gen10c.py). -/
import Derived.Test.YtcnpomejdnpegaaBlur7
import Derived.OwnWalk
namespace Go.Proofs.Ytcnpomejdnpegaa
open Go.RowKit
set_option linter.unusedVariables false

theorem heap1a (w : World) (a b : Obj) : ((w.alloc a).alloc b).heap[w.heap.size]? = some a := by
  have h1 := heap_alloc_new w a
  exact (((Below.refl (w.alloc a).heap.size (w.alloc a)).alloc (Nat.le_refl _) b).block _ (by simp)).trans h1
theorem heap1b (w : World) (a b : Obj) : ((w.alloc a).alloc b).heap[w.heap.size + 1]? = some b := by
  have := heap_alloc_new (w.alloc a) b
  rwa [World.size_alloc] at this
set_option maxRecDepth 100000 in
set_option maxHeartbeats 2000000 in
theorem set_bad (w : World) (m k seed : Nat) (v : Value) (l0 l1 l2 : List Nat) (ka : Option Addr) (kl kc : Nat) (key : List Nat) (hb : BlurAt w m k seed v l0 l1 l2) (hk : BytesAt w ka kl kc key) (fl : Int) (hf : fl < 0 ∨ 2 ≤ fl) :
    Calls Try.prog 13 #[v, .slice ka kl kc, .int .i64 fl] w fun e w' => (∃ v', e = .returned (.tuple #[v', .int .i64 1]) ∧ BlurAt w' m k seed v' l0 l1 l2) ∧ Below w.heap.size w w' := by
  obtain ⟨a0, a1, a2, c0, c1, c2, rfl, h0, h1, h2⟩ := hb.val
  obtain ⟨L, hL⟩ : ∃ L, (m + 7) / 8 = L := ⟨_, rfl⟩
  have hb0 := hb
  rw [hL] at hb0 ⊢
  have bA : ∀ o o' : Obj, Below w.heap.size w ((w.alloc o).alloc o') := fun o o' => ((Below.refl _ _).alloc (Nat.le_refl _) _).alloc (by simp) _
  have hF := fun (w' : World) (h : Below w.heap.size w w') => flagged_bad w' _ m k seed l0 l1 l2 (hb0.mono h) (.slice ka kl kc) fl hf
  clear hb h0 h1 h2
  go_enter Try.func13, Try.ntmps13
  go_wp2_with fail
  refine (hF _ (bA _ _)).mono ?_
  rintro e w1 ⟨rfl, b1⟩
  have p0 : w1.heap[w.heap.size]? = some (.cells #[.int .i64 (m : Nat), .int .i64 (k : Nat), .int .u64 (seed : Nat), .slice a0 L c0, .slice a1 L c1, .slice a2 L c2] 31 (0, 0)) := (b1.block _ (by simp <;> omega)).trans (heap1a _ _ _)
  have p1 : w1.heap[w.heap.size + 1]? = some (.cells #[.int .i64 0, .int .i64 0, .int .u64 0, .slice none 0 0, .slice none 0 0, .slice none 0 0] 31 (0, 0)) := (b1.block _ (by simp)).trans (heap1b _ _ _)
  have B1 := below_then (bA _ _) b1
  have hb1 := hb0.mono B1
  go_wp2_with (first | (refine wpList_load_row rfl 31 _ rfl w.heap.size rfl 31 #[.int .i64 (m : Nat), .int .i64 (k : Nat), .int .u64 (seed : Nat), .slice a0 L c0, .slice a1 L c1, .slice a2 L c2] (0, 0) _ p0 Try.underlying31 rfl (by kernel_rfl) ?_) | (refine store_rec rfl 31 (.tmp 6) (.tmp 23) rfl (w.heap.size + 1) #[.int .i64 (m : Nat), .int .i64 (k : Nat), .int .u64 (seed : Nat), .slice a0 L c0, .slice a1 L c1, .slice a2 L c2] rfl rfl 31 _ p1 (by kernel_rfl) rfl (by simp [Value.oneCell']) ?_; intro wz gy zz oz bz))
  have q0 := cell_of_row wz (w.heap.size + 1) 0 _ _ _ gy
  have q1 := cell_of_row wz (w.heap.size + 1) 1 _ _ _ gy
  have q2 := cell_of_row wz (w.heap.size + 1) 2 _ _ _ gy
  have q3 := cell_of_row wz (w.heap.size + 1) 3 _ _ _ gy
  have q4 := cell_of_row wz (w.heap.size + 1) 4 _ _ _ gy
  have q5 := cell_of_row wz (w.heap.size + 1) 5 _ _ _ gy
  simp at q0 q1 q2 q3 q4 q5
  exact bodyPost_ret (v := .tuple #[.agg #[.int .i64 (m : Nat), .int .i64 (k : Nat), .int .u64 (seed : Nat), .slice a0 L c0, .slice a1 L c1, .slice a2 L c2], .int .i64 1]) (by simp [results, Try.results13, go_sem, q0, q1, q2, q3, q4, q5]) rfl ⟨⟨_, rfl, hb1.recd p1 zero_no zz oz⟩, B1.trans (bz.mono (Nat.le_succ _))⟩
set_option maxRecDepth 100000 in
set_option maxHeartbeats 2000000 in
theorem set_none (w : World) (m k seed : Nat) (v : Value) (l0 l1 l2 : List Nat) (ka : Option Addr) (kl kc : Nat) (key : List Nat) (hb : BlurAt w m k seed v l0 l1 l2) (hk : BytesAt w ka kl kc key) (fl : Nat) (hf : fl < 2) (hall : allV l0 (placesN key seed m k) = false) :
    Calls Try.prog 13 #[v, .slice ka kl kc, .int .i64 (fl : Nat)] w fun e w' => (∃ v', e = .returned (.tuple #[v', .int .i64 10]) ∧ BlurAt w' m k seed v' l0 l1 l2) ∧ Below w.heap.size w w' := by
  obtain ⟨a0, a1, a2, c0, c1, c2, rfl, h0, h1, h2⟩ := hb.val
  obtain ⟨L, hL⟩ : ∃ L, (m + 7) / 8 = L := ⟨_, rfl⟩
  have hb0 := hb
  rw [hL] at hb0 ⊢
  have bA : ∀ o o' : Obj, Below w.heap.size w ((w.alloc o).alloc o') := fun o o' => ((Below.refl _ _).alloc (Nat.le_refl _) _).alloc (by simp) _
  have hF := fun (w' : World) (h : Below w.heap.size w w') => flagged_none w' m k seed _ l0 l1 l2 ka kl kc key (hb0.mono h) (hk.mono h) fl hf hall
  clear hb h0 h1 h2
  go_enter Try.func13, Try.ntmps13
  go_wp2_with fail
  refine (hF _ (bA _ _)).mono ?_
  rintro e w1 ⟨rfl, b1⟩
  have p0 : w1.heap[w.heap.size]? = some (.cells #[.int .i64 (m : Nat), .int .i64 (k : Nat), .int .u64 (seed : Nat), .slice a0 L c0, .slice a1 L c1, .slice a2 L c2] 31 (0, 0)) := (b1.block _ (by simp <;> omega)).trans (heap1a _ _ _)
  have p1 : w1.heap[w.heap.size + 1]? = some (.cells #[.int .i64 0, .int .i64 0, .int .u64 0, .slice none 0 0, .slice none 0 0, .slice none 0 0] 31 (0, 0)) := (b1.block _ (by simp)).trans (heap1b _ _ _)
  have B1 := below_then (bA _ _) b1
  have hb1 := hb0.mono B1
  go_wp2_with (first | (refine wpList_load_row rfl 31 _ rfl w.heap.size rfl 31 #[.int .i64 (m : Nat), .int .i64 (k : Nat), .int .u64 (seed : Nat), .slice a0 L c0, .slice a1 L c1, .slice a2 L c2] (0, 0) _ p0 Try.underlying31 rfl (by kernel_rfl) ?_) | (refine store_rec rfl 31 (.tmp 6) (.tmp 23) rfl (w.heap.size + 1) #[.int .i64 (m : Nat), .int .i64 (k : Nat), .int .u64 (seed : Nat), .slice a0 L c0, .slice a1 L c1, .slice a2 L c2] rfl rfl 31 _ p1 (by kernel_rfl) rfl (by simp [Value.oneCell']) ?_; intro wz gy zz oz bz))
  have q0 := cell_of_row wz (w.heap.size + 1) 0 _ _ _ gy
  have q1 := cell_of_row wz (w.heap.size + 1) 1 _ _ _ gy
  have q2 := cell_of_row wz (w.heap.size + 1) 2 _ _ _ gy
  have q3 := cell_of_row wz (w.heap.size + 1) 3 _ _ _ gy
  have q4 := cell_of_row wz (w.heap.size + 1) 4 _ _ _ gy
  have q5 := cell_of_row wz (w.heap.size + 1) 5 _ _ _ gy
  simp at q0 q1 q2 q3 q4 q5
  exact bodyPost_ret (v := .tuple #[.agg #[.int .i64 (m : Nat), .int .i64 (k : Nat), .int .u64 (seed : Nat), .slice a0 L c0, .slice a1 L c1, .slice a2 L c2], .int .i64 10]) (by simp [results, Try.results13, go_sem, q0, q1, q2, q3, q4, q5]) rfl ⟨⟨_, rfl, hb1.recd p1 zero_no zz oz⟩, B1.trans (bz.mono (Nat.le_succ _))⟩
set_option maxRecDepth 100000 in
set_option maxHeartbeats 4000000 in
theorem set0_ok (w : World) (m k seed : Nat) (v : Value) (l0 l1 l2 : List Nat) (ka : Option Addr) (kl kc : Nat) (key : List Nat) (hb : BlurAt w m k seed v l0 l1 l2) (hk : BytesAt w ka kl kc key) (hall : allV l0 (placesN key seed m k) = true) :
    Calls Try.prog 13 #[v, .slice ka kl kc, .int .i64 0] w fun e w' => (∃ v', e = .returned (.tuple #[v', .int .i64 0]) ∧ BlurAt w' m k seed v' l0 (if allV l1 (placesN key seed m k) then l1 else setV l1 (placesN key seed m k)) l2) ∧ Below w.heap.size w w' := by
  have hpl := placesN_lt key seed m k hb.m1
  have hW := fun (w' : World) (v : Value) => @with1_at w' m k seed v l0 l1 l2 (placesN key seed m k)
  obtain ⟨R0, hR0⟩ : ∃ R0, (if allV l1 (placesN key seed m k) then l1 else setV l1 (placesN key seed m k)) = R0 := ⟨_, rfl⟩
  obtain ⟨F0, hF0⟩ : ∃ F0, (!allV l1 (placesN key seed m k)) = F0 := ⟨_, rfl⟩
  rw [hR0] at hW ⊢
  rw [hF0] at hW
  clear hR0 hF0
  obtain ⟨a0, a1, a2, c0, c1, c2, rfl, h0, h1, h2⟩ := hb.val
  obtain ⟨L, hL⟩ : ∃ L, (m + 7) / 8 = L := ⟨_, rfl⟩
  have hb0 := hb
  rw [hL] at hb0 ⊢
  have bA : ∀ o o' : Obj, Below w.heap.size w ((w.alloc o).alloc o') := fun o o' => ((Below.refl _ _).alloc (Nat.le_refl _) _).alloc (by simp) _
  have hF := fun (w' : World) (h : Below w.heap.size w w') => flagged_ok w' m k seed _ l0 l1 l2 ka kl kc key (hb0.mono h) (hk.mono h) 0 (by omega) hall
  clear hb h0 h1 h2
  go_enter Try.func13, Try.ntmps13
  go_wp2_with fail
  refine (hF _ (bA _ _)).mono ?_
  rintro e w1 ⟨gp, pa, pk, pc, rfl, hgp, hcp, hip, b1⟩
  have p0 : w1.heap[w.heap.size]? = some (.cells #[.int .i64 (m : Nat), .int .i64 (k : Nat), .int .u64 (seed : Nat), .slice a0 L c0, .slice a1 L c1, .slice a2 L c2] 31 (0, 0)) := (b1.block _ (by simp <;> omega)).trans (heap1a _ _ _)
  have p1 : w1.heap[w.heap.size + 1]? = some (.cells #[.int .i64 0, .int .i64 0, .int .u64 0, .slice none 0 0, .slice none 0 0, .slice none 0 0] 31 (0, 0)) := (b1.block _ (by simp)).trans (heap1b _ _ _)
  have B1 := below_then (bA _ _) b1
  have hb1 := hb0.mono B1
  simp only [hL] at hW
  have z1 : w.heap.size + 1 < w1.heap.size := Nat.lt_of_lt_of_le (by simp) b1.size
  clear hF hL
  go_wp2_with (first | (refine wpList_load_row rfl 31 _ rfl w.heap.size rfl 31 #[.int .i64 (m : Nat), .int .i64 (k : Nat), .int .u64 (seed : Nat), .slice a0 L c0, .slice a1 L c1, .slice a2 L c2] (0, 0) _ p0 Try.underlying31 rfl (by kernel_rfl) ?_) | fail)
  refine (hW w1 _ hb1 gp pa pk pc hgp hcp hip hpl).mono ?_
  rintro e w2 ⟨b0, b1', b2, d0, d1, d2, rfl, hb2, b2'⟩
  have B2 := below_then B1 b2'
  have z2 : w.heap.size + 1 < w2.heap.size := Nat.lt_of_lt_of_le z1 b2'.size
  have p2 : w2.heap[w.heap.size + 1]? = some (.cells #[.int .i64 0, .int .i64 0, .int .u64 0, .slice none 0 0, .slice none 0 0, .slice none 0 0] 31 (0, 0)) := (b2'.block _ z1).trans p1
  have p3 := fun o : Obj => (((Below.refl w2.heap.size w2).alloc (Nat.le_refl _) o).block _ z2).trans p2
  have hb3 := fun o : Obj => hb2.mono ((Below.refl w2.heap.size w2).alloc (Nat.le_refl _) o)
  have B3 := fun o : Obj => B2.alloc (o := o) B2.size
  clear p0 p1 p2 hcp hip b1 b2'
  go_wp2_with (first | (refine store_rec rfl 31 (.tmp 6) (.tmp 32) rfl (w.heap.size + 1) #[.int .i64 (m : Nat), .int .i64 (k : Nat), .int .u64 (seed : Nat), .slice b0 L d0, .slice b1' L d1, .slice b2 L d2] rfl rfl 31 _ (p3 _) (by kernel_rfl) rfl (by simp [Value.oneCell']) ?_; intro wz gy zz oz bz))
  have q0 := cell_of_row wz (w.heap.size + 1) 0 _ _ _ gy
  have q1 := cell_of_row wz (w.heap.size + 1) 1 _ _ _ gy
  have q2 := cell_of_row wz (w.heap.size + 1) 2 _ _ _ gy
  have q3 := cell_of_row wz (w.heap.size + 1) 3 _ _ _ gy
  have q4 := cell_of_row wz (w.heap.size + 1) 4 _ _ _ gy
  have q5 := cell_of_row wz (w.heap.size + 1) 5 _ _ _ gy
  simp at q0 q1 q2 q3 q4 q5
  exact bodyPost_ret (v := .tuple #[.agg #[.int .i64 (m : Nat), .int .i64 (k : Nat), .int .u64 (seed : Nat), .slice b0 L d0, .slice b1' L d1, .slice b2 L d2], .int .i64 0]) (by simp [results, Try.results13, go_sem, q0, q1, q2, q3, q4, q5]) rfl ⟨⟨_, rfl, (hb3 _).recd (p3 _) zero_no zz oz⟩, (B3 _).trans (bz.mono (Nat.le_succ _))⟩
set_option maxRecDepth 100000 in
set_option maxHeartbeats 4000000 in
theorem set1_ok (w : World) (m k seed : Nat) (v : Value) (l0 l1 l2 : List Nat) (ka : Option Addr) (kl kc : Nat) (key : List Nat) (hb : BlurAt w m k seed v l0 l1 l2) (hk : BytesAt w ka kl kc key) (hall : allV l0 (placesN key seed m k) = true) :
    Calls Try.prog 13 #[v, .slice ka kl kc, .int .i64 1] w fun e w' => (∃ v', e = .returned (.tuple #[v', .int .i64 0]) ∧ BlurAt w' m k seed v' l0 l1 (if allV l2 (placesN key seed m k) then l2 else setV l2 (placesN key seed m k))) ∧ Below w.heap.size w w' := by
  have hpl := placesN_lt key seed m k hb.m1
  have hW := fun (w' : World) (v : Value) => @with2_at w' m k seed v l0 l1 l2 (placesN key seed m k)
  obtain ⟨R0, hR0⟩ : ∃ R0, (if allV l2 (placesN key seed m k) then l2 else setV l2 (placesN key seed m k)) = R0 := ⟨_, rfl⟩
  obtain ⟨F0, hF0⟩ : ∃ F0, (!allV l2 (placesN key seed m k)) = F0 := ⟨_, rfl⟩
  rw [hR0] at hW ⊢
  rw [hF0] at hW
  clear hR0 hF0
  obtain ⟨a0, a1, a2, c0, c1, c2, rfl, h0, h1, h2⟩ := hb.val
  obtain ⟨L, hL⟩ : ∃ L, (m + 7) / 8 = L := ⟨_, rfl⟩
  have hb0 := hb
  rw [hL] at hb0 ⊢
  have bA : ∀ o o' : Obj, Below w.heap.size w ((w.alloc o).alloc o') := fun o o' => ((Below.refl _ _).alloc (Nat.le_refl _) _).alloc (by simp) _
  have hF := fun (w' : World) (h : Below w.heap.size w w') => flagged_ok w' m k seed _ l0 l1 l2 ka kl kc key (hb0.mono h) (hk.mono h) 1 (by omega) hall
  clear hb h0 h1 h2
  go_enter Try.func13, Try.ntmps13
  go_wp2_with fail
  refine (hF _ (bA _ _)).mono ?_
  rintro e w1 ⟨gp, pa, pk, pc, rfl, hgp, hcp, hip, b1⟩
  have p0 : w1.heap[w.heap.size]? = some (.cells #[.int .i64 (m : Nat), .int .i64 (k : Nat), .int .u64 (seed : Nat), .slice a0 L c0, .slice a1 L c1, .slice a2 L c2] 31 (0, 0)) := (b1.block _ (by simp <;> omega)).trans (heap1a _ _ _)
  have p1 : w1.heap[w.heap.size + 1]? = some (.cells #[.int .i64 0, .int .i64 0, .int .u64 0, .slice none 0 0, .slice none 0 0, .slice none 0 0] 31 (0, 0)) := (b1.block _ (by simp)).trans (heap1b _ _ _)
  have B1 := below_then (bA _ _) b1
  have hb1 := hb0.mono B1
  simp only [hL] at hW
  have z1 : w.heap.size + 1 < w1.heap.size := Nat.lt_of_lt_of_le (by simp) b1.size
  clear hF hL
  go_wp2_with (first | (refine wpList_load_row rfl 31 _ rfl w.heap.size rfl 31 #[.int .i64 (m : Nat), .int .i64 (k : Nat), .int .u64 (seed : Nat), .slice a0 L c0, .slice a1 L c1, .slice a2 L c2] (0, 0) _ p0 Try.underlying31 rfl (by kernel_rfl) ?_) | fail)
  refine (hW w1 _ hb1 gp pa pk pc hgp hcp hip hpl).mono ?_
  rintro e w2 ⟨b0, b1', b2, d0, d1, d2, rfl, hb2, b2'⟩
  have B2 := below_then B1 b2'
  have z2 : w.heap.size + 1 < w2.heap.size := Nat.lt_of_lt_of_le z1 b2'.size
  have p2 : w2.heap[w.heap.size + 1]? = some (.cells #[.int .i64 0, .int .i64 0, .int .u64 0, .slice none 0 0, .slice none 0 0, .slice none 0 0] 31 (0, 0)) := (b2'.block _ z1).trans p1
  have p3 := fun o : Obj => (((Below.refl w2.heap.size w2).alloc (Nat.le_refl _) o).block _ z2).trans p2
  have hb3 := fun o : Obj => hb2.mono ((Below.refl w2.heap.size w2).alloc (Nat.le_refl _) o)
  have B3 := fun o : Obj => B2.alloc (o := o) B2.size
  clear p0 p1 p2 hcp hip b1 b2'
  go_wp2_with (first | (refine store_rec rfl 31 (.tmp 6) (.tmp 32) rfl (w.heap.size + 1) #[.int .i64 (m : Nat), .int .i64 (k : Nat), .int .u64 (seed : Nat), .slice b0 L d0, .slice b1' L d1, .slice b2 L d2] rfl rfl 31 _ (p3 _) (by kernel_rfl) rfl (by simp [Value.oneCell']) ?_; intro wz gy zz oz bz))
  have q0 := cell_of_row wz (w.heap.size + 1) 0 _ _ _ gy
  have q1 := cell_of_row wz (w.heap.size + 1) 1 _ _ _ gy
  have q2 := cell_of_row wz (w.heap.size + 1) 2 _ _ _ gy
  have q3 := cell_of_row wz (w.heap.size + 1) 3 _ _ _ gy
  have q4 := cell_of_row wz (w.heap.size + 1) 4 _ _ _ gy
  have q5 := cell_of_row wz (w.heap.size + 1) 5 _ _ _ gy
  simp at q0 q1 q2 q3 q4 q5
  exact bodyPost_ret (v := .tuple #[.agg #[.int .i64 (m : Nat), .int .i64 (k : Nat), .int .u64 (seed : Nat), .slice b0 L d0, .slice b1' L d1, .slice b2 L d2], .int .i64 0]) (by simp [results, Try.results13, go_sem, q0, q1, q2, q3, q4, q5]) rfl ⟨⟨_, rfl, (hb3 _).recd (p3 _) zero_no zz oz⟩, (B3 _).trans (bz.mono (Nat.le_succ _))⟩
end Go.Proofs.Ytcnpomejdnpegaa
