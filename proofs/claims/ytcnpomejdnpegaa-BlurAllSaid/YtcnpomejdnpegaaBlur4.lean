/- blur.with, at each of the three rows (by gen10.py). -/
import Derived.Test.YtcnpomejdnpegaaBlur3
import Derived.OwnWalk
namespace Go.Proofs.Ytcnpomejdnpegaa
open Go.RowKit
set_option linter.unusedVariables false

set_option maxRecDepth 100000 in
set_option maxHeartbeats 4000000 in
theorem with0_any (w : World) (m k seed : Nat) (v act : Value) (l0 l1 l2 : List Nat) (ps : List Nat) (hb : BlurAt w m k seed v l0 l1 l2) (ht : TouchAt w act ps) (hps : ∀ p ∈ ps, p < m) :
    Calls Try.prog 21 #[v, .int .i64 0, act] w fun e w' => (∃ v', e = .returned (.tuple #[v', .bool (!allV l0 ps)]) ∧ BlurAt w' m k seed v' (if allV l0 ps then l0 else setV l0 ps) l1 l2) ∧ Below w.heap.size w w' := by
  have hb0 := hb
  have m1 := hb.m1
  have m2 := hb.m2
  have k1 := hb.k1
  have k2 := hb.k2
  have sd := hb.sd
  obtain ⟨a0, a1, a2, c0, c1, c2, rfl, h0, h1, h2⟩ := hb.val
  obtain ⟨gp, pa, pk, pc, rfl, hgp, hcp, hip⟩ := ht
  obtain ⟨L, hL⟩ : ∃ L, (m + 7) / 8 = L := ⟨_, rfl⟩
  rw [hL] at h0 h1 h2
  have hlen : L ≤ 1000000 := by omega
  have hlt : ∀ p ∈ ps, p < 8 * L := fun p hp => by have := hps p hp; omega
  have HL := Lib.hid hL
  have L1 : 1 ≤ L := by omega
  rw [hL]
  have bA : ∀ o o' : Obj, Below w.heap.size w ((w.alloc o).alloc o') := fun o o' => ((Below.refl _ _).alloc (Nat.le_refl _) _).alloc (by simp) _
  have bB : ∀ o o' o'' : Obj, Below w.heap.size w (((w.alloc o).alloc o').alloc o'') := fun o o' o'' => (bA o o').alloc (bA o o').size _
  clear hL
  cases hall : allV l0 ps with
  | true =>
    go_enter Try.func21, Try.ntmps21
    go_wp2_with fail
    refine (touchF _ gp pa pk pc ps a0 L c0 l0 ?hc (hip.mono (bA _ _)) (h0.mono (bA _ _)) hlt hlen).mono ?_
    case hc => exact ((bA _ _).cell (p := ⟨gp, 0, none⟩) hgp).trans hcp
    rintro e w1 ⟨rfl, rfl⟩
    rw [hall]
    go_wp2_with fail
    refine bodyPost_ret (v := .tuple #[.agg #[.int .i64 (m : Nat), .int .i64 (k : Nat), .int .u64 (seed : Nat), .slice a0 L c0, .slice a1 L c1, .slice a2 L c2], .bool false]) (by simp [results, Try.results21, go_sem]) rfl ⟨⟨_, rfl, ?_⟩, ?_⟩
    · try rw [if_pos rfl]
      exact ⟨m1, m2, k1, k2, sd, a0, a1, a2, c0, c1, c2, by rw [HL.out], by rw [HL.out]; exact h0.mono (bA _ _), by rw [HL.out]; exact h1.mono (bA _ _), by rw [HL.out]; exact h2.mono (bA _ _)⟩
    · exact bA _ _
  | false =>
    go_enter Try.func21, Try.ntmps21
    go_wp2_with fail
    refine (touchF _ gp pa pk pc ps a0 L c0 l0 ?hc (hip.mono (bA _ _)) (h0.mono (bA _ _)) hlt hlen).mono ?_
    case hc => exact ((bA _ _).cell (p := ⟨gp, 0, none⟩) hgp).trans hcp
    rintro e w1 ⟨rfl, rfl⟩
    rw [hall]
    go_wp2_with fail
    obtain ⟨rb, ro, ha, hrb, hrow⟩ := h0.at_.resolve_left (by omega)
    subst ha
    have hl0 := h0.len_eq
    refine (Try.bytes_Clone_at ⟨rb, ro, none⟩ L c0 (nats l0) _ (by simpa [nats] using hl0) (by omega) ?hcl).mono ?_
    case hcl =>
      intro q hq
      rw [Addr.add_lit, nats_getD]
      exact ((bB _ _ _).cell (p := ⟨rb, ro + q, none⟩) hrb).trans (hrow q hq)
    rintro e w4 ⟨v4, rfl, own4, _, b4⟩
    obtain ⟨g, cp, rfl, hgb, lb⟩ := laid_own own4 h0.byte (by omega)
    have z4 := b4.size
    simp only [World.size_alloc] at hgb b4 z4
    have B4 := (bB _ _ _).trans (b4.mono (by omega))
    have n1 : w4.heap[w.heap.size + 1]? = some (.cells #[.int .i64 0, .int .i64 0, .int .u64 0, .slice none 0 0, .slice none 0 0, .slice none 0 0] 31 (0, 0)) := (b4.block _ (by omega)).trans (heap3a _ _ _ _)
    have n2 : w4.heap[w.heap.size + 1 + 1]? = some (.cells #[.int .i64 (m : Nat), .int .i64 (k : Nat), .int .u64 (seed : Nat), .slice (some ⟨rb, ro, none⟩) L c0, .slice a1 L c1, .slice a2 L c2] 31 (0, 0)) := (b4.block _ (by omega)).trans (heap3b _ _ _ _)
    have x1 := cell_of_row w4 (w.heap.size + 1 + 1) 3 _ _ _ n2
    have x2 := frozen_of_row w4 (w.heap.size + 1 + 1) 3 _ _ n2
    have x3 : w.heap.size + 1 + 1 < w4.heap.size := by omega
    simp at x1
    go_wp2_with fail
    have B5 : Below w.heap.size w (w4.setCell ⟨w.heap.size + 1 + 1, 3, none⟩ (.slice (some ⟨g, 0, none⟩) L cp)) := B4.setCell (by show w.heap.size ≤ w.heap.size + 1 + 1; omega) _
    have lb5 := lb.other (Below.heap_setCell w4 ⟨w.heap.size + 1 + 1, 3, none⟩ (.slice (some ⟨g, 0, none⟩) L cp) g (by show g ≠ w.heap.size + 1 + 1; omega))
    refine (touchT _ gp pa pk pc ps g L cp l0 ?hc2 (hip.mono B5) lb5 hlt hlen ?hpg).mono ?_
    case hc2 => exact (B5.cell (p := ⟨gp, 0, none⟩) hgp).trans hcp
    case hpg => intro b o hb0 hk0; have := hip.low b o hb0 hk0; omega
    rintro e w6 ⟨⟨bb, rfl⟩, lb6, b6, z6, o6⟩
    have p2 : w6.heap[w.heap.size + 1 + 1]? = some (.cells #[.int .i64 (m : Nat), .int .i64 (k : Nat), .int .u64 (seed : Nat), .slice (some ⟨g, 0, none⟩) L cp, .slice a1 L c1, .slice a2 L c2] 31 (0, 0)) := (o6 _ (by omega)).trans (Joins.block_setCell n2 _)
    have p1 : w6.heap[w.heap.size + 1]? = some (.cells #[.int .i64 0, .int .i64 0, .int .u64 0, .slice none 0 0, .slice none 0 0, .slice none 0 0] 31 (0, 0)) := (o6 _ (by omega)).trans ((Below.heap_setCell w4 ⟨w.heap.size + 1 + 1, 3, none⟩ _ _ (by show w.heap.size + 1 ≠ w.heap.size + 1 + 1; omega)).trans n1)
    have B6 := B5.trans (b6.mono (by omega))
    clear n1 n2 x1 x2 x3
    go_wp2_with (first | (refine wpList_load_row rfl 31 _ rfl (w.heap.size + 1 + 1) rfl 31 _ _ _ p2 Try.underlying31 rfl (by kernel_rfl) ?_) | (refine store_rec rfl 31 (.tmp 6) (.tmp 31) rfl (w.heap.size + 1) #[.int .i64 (m : Nat), .int .i64 (k : Nat), .int .u64 (seed : Nat), .slice (some ⟨g, 0, none⟩) L cp, .slice a1 L c1, .slice a2 L c2] rfl rfl 31 _ p1 (by kernel_rfl) rfl (by simp [Value.oneCell']) ?_; intro w7 g7 z7 o7 b7))
    have B7 := B6.trans (b7.mono (by omega))
    have q0 := cell_of_row w7 (w.heap.size + 1) 0 _ _ _ g7
    have q1 := cell_of_row w7 (w.heap.size + 1) 1 _ _ _ g7
    have q2 := cell_of_row w7 (w.heap.size + 1) 2 _ _ _ g7
    have q3 := cell_of_row w7 (w.heap.size + 1) 3 _ _ _ g7
    have q4 := cell_of_row w7 (w.heap.size + 1) 4 _ _ _ g7
    have q5 := cell_of_row w7 (w.heap.size + 1) 5 _ _ _ g7
    simp at q0 q1 q2 q3 q4 q5
    have lb7 := (lb6.other (o7 g (by omega))).bytes cp (by omega)
    refine bodyPost_ret (v := .tuple #[.agg #[.int .i64 (m : Nat), .int .i64 (k : Nat), .int .u64 (seed : Nat), .slice (some ⟨g, 0, none⟩) L cp, .slice a1 L c1, .slice a2 L c2], .bool true]) (by simp [results, Try.results21, go_sem, q0, q1, q2, q3, q4, q5]) rfl ⟨⟨_, rfl, ?_⟩, B7⟩
    try rw [if_neg (by decide)]
    exact ⟨m1, m2, k1, k2, sd, (some ⟨g, 0, none⟩), a1, a2, cp, c1, c2, by rw [HL.out], by rw [HL.out]; exact lb7, by rw [HL.out]; exact (h1.mono B7), by rw [HL.out]; exact (h2.mono B7)⟩
set_option maxRecDepth 100000 in
set_option maxHeartbeats 4000000 in
theorem with1_any (w : World) (m k seed : Nat) (v act : Value) (l0 l1 l2 : List Nat) (ps : List Nat) (hb : BlurAt w m k seed v l0 l1 l2) (ht : TouchAt w act ps) (hps : ∀ p ∈ ps, p < m) :
    Calls Try.prog 21 #[v, .int .i64 1, act] w fun e w' => (∃ v', e = .returned (.tuple #[v', .bool (!allV l1 ps)]) ∧ BlurAt w' m k seed v' l0 (if allV l1 ps then l1 else setV l1 ps) l2) ∧ Below w.heap.size w w' := by
  have hb0 := hb
  have m1 := hb.m1
  have m2 := hb.m2
  have k1 := hb.k1
  have k2 := hb.k2
  have sd := hb.sd
  obtain ⟨a0, a1, a2, c0, c1, c2, rfl, h0, h1, h2⟩ := hb.val
  obtain ⟨gp, pa, pk, pc, rfl, hgp, hcp, hip⟩ := ht
  obtain ⟨L, hL⟩ : ∃ L, (m + 7) / 8 = L := ⟨_, rfl⟩
  rw [hL] at h0 h1 h2
  have hlen : L ≤ 1000000 := by omega
  have hlt : ∀ p ∈ ps, p < 8 * L := fun p hp => by have := hps p hp; omega
  have HL := Lib.hid hL
  have L1 : 1 ≤ L := by omega
  rw [hL]
  have bA : ∀ o o' : Obj, Below w.heap.size w ((w.alloc o).alloc o') := fun o o' => ((Below.refl _ _).alloc (Nat.le_refl _) _).alloc (by simp) _
  have bB : ∀ o o' o'' : Obj, Below w.heap.size w (((w.alloc o).alloc o').alloc o'') := fun o o' o'' => (bA o o').alloc (bA o o').size _
  clear hL
  cases hall : allV l1 ps with
  | true =>
    go_enter Try.func21, Try.ntmps21
    go_wp2_with fail
    refine (touchF _ gp pa pk pc ps a1 L c1 l1 ?hc (hip.mono (bA _ _)) (h1.mono (bA _ _)) hlt hlen).mono ?_
    case hc => exact ((bA _ _).cell (p := ⟨gp, 0, none⟩) hgp).trans hcp
    rintro e w1 ⟨rfl, rfl⟩
    rw [hall]
    go_wp2_with fail
    refine bodyPost_ret (v := .tuple #[.agg #[.int .i64 (m : Nat), .int .i64 (k : Nat), .int .u64 (seed : Nat), .slice a0 L c0, .slice a1 L c1, .slice a2 L c2], .bool false]) (by simp [results, Try.results21, go_sem]) rfl ⟨⟨_, rfl, ?_⟩, ?_⟩
    · try rw [if_pos rfl]
      exact ⟨m1, m2, k1, k2, sd, a0, a1, a2, c0, c1, c2, by rw [HL.out], by rw [HL.out]; exact h0.mono (bA _ _), by rw [HL.out]; exact h1.mono (bA _ _), by rw [HL.out]; exact h2.mono (bA _ _)⟩
    · exact bA _ _
  | false =>
    go_enter Try.func21, Try.ntmps21
    go_wp2_with fail
    refine (touchF _ gp pa pk pc ps a1 L c1 l1 ?hc (hip.mono (bA _ _)) (h1.mono (bA _ _)) hlt hlen).mono ?_
    case hc => exact ((bA _ _).cell (p := ⟨gp, 0, none⟩) hgp).trans hcp
    rintro e w1 ⟨rfl, rfl⟩
    rw [hall]
    go_wp2_with fail
    obtain ⟨rb, ro, ha, hrb, hrow⟩ := h1.at_.resolve_left (by omega)
    subst ha
    have hl1 := h1.len_eq
    refine (Try.bytes_Clone_at ⟨rb, ro, none⟩ L c1 (nats l1) _ (by simpa [nats] using hl1) (by omega) ?hcl).mono ?_
    case hcl =>
      intro q hq
      rw [Addr.add_lit, nats_getD]
      exact ((bB _ _ _).cell (p := ⟨rb, ro + q, none⟩) hrb).trans (hrow q hq)
    rintro e w4 ⟨v4, rfl, own4, _, b4⟩
    obtain ⟨g, cp, rfl, hgb, lb⟩ := laid_own own4 h1.byte (by omega)
    have z4 := b4.size
    simp only [World.size_alloc] at hgb b4 z4
    have B4 := (bB _ _ _).trans (b4.mono (by omega))
    have n1 : w4.heap[w.heap.size + 1]? = some (.cells #[.int .i64 0, .int .i64 0, .int .u64 0, .slice none 0 0, .slice none 0 0, .slice none 0 0] 31 (0, 0)) := (b4.block _ (by omega)).trans (heap3a _ _ _ _)
    have n2 : w4.heap[w.heap.size + 1 + 1]? = some (.cells #[.int .i64 (m : Nat), .int .i64 (k : Nat), .int .u64 (seed : Nat), .slice a0 L c0, .slice (some ⟨rb, ro, none⟩) L c1, .slice a2 L c2] 31 (0, 0)) := (b4.block _ (by omega)).trans (heap3b _ _ _ _)
    have x1 := cell_of_row w4 (w.heap.size + 1 + 1) 4 _ _ _ n2
    have x2 := frozen_of_row w4 (w.heap.size + 1 + 1) 4 _ _ n2
    have x3 : w.heap.size + 1 + 1 < w4.heap.size := by omega
    simp at x1
    go_wp2_with fail
    have B5 : Below w.heap.size w (w4.setCell ⟨w.heap.size + 1 + 1, 4, none⟩ (.slice (some ⟨g, 0, none⟩) L cp)) := B4.setCell (by show w.heap.size ≤ w.heap.size + 1 + 1; omega) _
    have lb5 := lb.other (Below.heap_setCell w4 ⟨w.heap.size + 1 + 1, 4, none⟩ (.slice (some ⟨g, 0, none⟩) L cp) g (by show g ≠ w.heap.size + 1 + 1; omega))
    refine (touchT _ gp pa pk pc ps g L cp l1 ?hc2 (hip.mono B5) lb5 hlt hlen ?hpg).mono ?_
    case hc2 => exact (B5.cell (p := ⟨gp, 0, none⟩) hgp).trans hcp
    case hpg => intro b o hb0 hk0; have := hip.low b o hb0 hk0; omega
    rintro e w6 ⟨⟨bb, rfl⟩, lb6, b6, z6, o6⟩
    have p2 : w6.heap[w.heap.size + 1 + 1]? = some (.cells #[.int .i64 (m : Nat), .int .i64 (k : Nat), .int .u64 (seed : Nat), .slice a0 L c0, .slice (some ⟨g, 0, none⟩) L cp, .slice a2 L c2] 31 (0, 0)) := (o6 _ (by omega)).trans (Joins.block_setCell n2 _)
    have p1 : w6.heap[w.heap.size + 1]? = some (.cells #[.int .i64 0, .int .i64 0, .int .u64 0, .slice none 0 0, .slice none 0 0, .slice none 0 0] 31 (0, 0)) := (o6 _ (by omega)).trans ((Below.heap_setCell w4 ⟨w.heap.size + 1 + 1, 4, none⟩ _ _ (by show w.heap.size + 1 ≠ w.heap.size + 1 + 1; omega)).trans n1)
    have B6 := B5.trans (b6.mono (by omega))
    clear n1 n2 x1 x2 x3
    go_wp2_with (first | (refine wpList_load_row rfl 31 _ rfl (w.heap.size + 1 + 1) rfl 31 _ _ _ p2 Try.underlying31 rfl (by kernel_rfl) ?_) | (refine store_rec rfl 31 (.tmp 6) (.tmp 31) rfl (w.heap.size + 1) #[.int .i64 (m : Nat), .int .i64 (k : Nat), .int .u64 (seed : Nat), .slice a0 L c0, .slice (some ⟨g, 0, none⟩) L cp, .slice a2 L c2] rfl rfl 31 _ p1 (by kernel_rfl) rfl (by simp [Value.oneCell']) ?_; intro w7 g7 z7 o7 b7))
    have B7 := B6.trans (b7.mono (by omega))
    have q0 := cell_of_row w7 (w.heap.size + 1) 0 _ _ _ g7
    have q1 := cell_of_row w7 (w.heap.size + 1) 1 _ _ _ g7
    have q2 := cell_of_row w7 (w.heap.size + 1) 2 _ _ _ g7
    have q3 := cell_of_row w7 (w.heap.size + 1) 3 _ _ _ g7
    have q4 := cell_of_row w7 (w.heap.size + 1) 4 _ _ _ g7
    have q5 := cell_of_row w7 (w.heap.size + 1) 5 _ _ _ g7
    simp at q0 q1 q2 q3 q4 q5
    have lb7 := (lb6.other (o7 g (by omega))).bytes cp (by omega)
    refine bodyPost_ret (v := .tuple #[.agg #[.int .i64 (m : Nat), .int .i64 (k : Nat), .int .u64 (seed : Nat), .slice a0 L c0, .slice (some ⟨g, 0, none⟩) L cp, .slice a2 L c2], .bool true]) (by simp [results, Try.results21, go_sem, q0, q1, q2, q3, q4, q5]) rfl ⟨⟨_, rfl, ?_⟩, B7⟩
    try rw [if_neg (by decide)]
    exact ⟨m1, m2, k1, k2, sd, a0, (some ⟨g, 0, none⟩), a2, c0, cp, c2, by rw [HL.out], by rw [HL.out]; exact (h0.mono B7), by rw [HL.out]; exact lb7, by rw [HL.out]; exact (h2.mono B7)⟩
set_option maxRecDepth 100000 in
set_option maxHeartbeats 4000000 in
theorem with2_any (w : World) (m k seed : Nat) (v act : Value) (l0 l1 l2 : List Nat) (ps : List Nat) (hb : BlurAt w m k seed v l0 l1 l2) (ht : TouchAt w act ps) (hps : ∀ p ∈ ps, p < m) :
    Calls Try.prog 21 #[v, .int .i64 2, act] w fun e w' => (∃ v', e = .returned (.tuple #[v', .bool (!allV l2 ps)]) ∧ BlurAt w' m k seed v' l0 l1 (if allV l2 ps then l2 else setV l2 ps)) ∧ Below w.heap.size w w' := by
  have hb0 := hb
  have m1 := hb.m1
  have m2 := hb.m2
  have k1 := hb.k1
  have k2 := hb.k2
  have sd := hb.sd
  obtain ⟨a0, a1, a2, c0, c1, c2, rfl, h0, h1, h2⟩ := hb.val
  obtain ⟨gp, pa, pk, pc, rfl, hgp, hcp, hip⟩ := ht
  obtain ⟨L, hL⟩ : ∃ L, (m + 7) / 8 = L := ⟨_, rfl⟩
  rw [hL] at h0 h1 h2
  have hlen : L ≤ 1000000 := by omega
  have hlt : ∀ p ∈ ps, p < 8 * L := fun p hp => by have := hps p hp; omega
  have HL := Lib.hid hL
  have L1 : 1 ≤ L := by omega
  rw [hL]
  have bA : ∀ o o' : Obj, Below w.heap.size w ((w.alloc o).alloc o') := fun o o' => ((Below.refl _ _).alloc (Nat.le_refl _) _).alloc (by simp) _
  have bB : ∀ o o' o'' : Obj, Below w.heap.size w (((w.alloc o).alloc o').alloc o'') := fun o o' o'' => (bA o o').alloc (bA o o').size _
  clear hL
  cases hall : allV l2 ps with
  | true =>
    go_enter Try.func21, Try.ntmps21
    go_wp2_with fail
    refine (touchF _ gp pa pk pc ps a2 L c2 l2 ?hc (hip.mono (bA _ _)) (h2.mono (bA _ _)) hlt hlen).mono ?_
    case hc => exact ((bA _ _).cell (p := ⟨gp, 0, none⟩) hgp).trans hcp
    rintro e w1 ⟨rfl, rfl⟩
    rw [hall]
    go_wp2_with fail
    refine bodyPost_ret (v := .tuple #[.agg #[.int .i64 (m : Nat), .int .i64 (k : Nat), .int .u64 (seed : Nat), .slice a0 L c0, .slice a1 L c1, .slice a2 L c2], .bool false]) (by simp [results, Try.results21, go_sem]) rfl ⟨⟨_, rfl, ?_⟩, ?_⟩
    · try rw [if_pos rfl]
      exact ⟨m1, m2, k1, k2, sd, a0, a1, a2, c0, c1, c2, by rw [HL.out], by rw [HL.out]; exact h0.mono (bA _ _), by rw [HL.out]; exact h1.mono (bA _ _), by rw [HL.out]; exact h2.mono (bA _ _)⟩
    · exact bA _ _
  | false =>
    go_enter Try.func21, Try.ntmps21
    go_wp2_with fail
    refine (touchF _ gp pa pk pc ps a2 L c2 l2 ?hc (hip.mono (bA _ _)) (h2.mono (bA _ _)) hlt hlen).mono ?_
    case hc => exact ((bA _ _).cell (p := ⟨gp, 0, none⟩) hgp).trans hcp
    rintro e w1 ⟨rfl, rfl⟩
    rw [hall]
    go_wp2_with fail
    obtain ⟨rb, ro, ha, hrb, hrow⟩ := h2.at_.resolve_left (by omega)
    subst ha
    have hl2 := h2.len_eq
    refine (Try.bytes_Clone_at ⟨rb, ro, none⟩ L c2 (nats l2) _ (by simpa [nats] using hl2) (by omega) ?hcl).mono ?_
    case hcl =>
      intro q hq
      rw [Addr.add_lit, nats_getD]
      exact ((bB _ _ _).cell (p := ⟨rb, ro + q, none⟩) hrb).trans (hrow q hq)
    rintro e w4 ⟨v4, rfl, own4, _, b4⟩
    obtain ⟨g, cp, rfl, hgb, lb⟩ := laid_own own4 h2.byte (by omega)
    have z4 := b4.size
    simp only [World.size_alloc] at hgb b4 z4
    have B4 := (bB _ _ _).trans (b4.mono (by omega))
    have n1 : w4.heap[w.heap.size + 1]? = some (.cells #[.int .i64 0, .int .i64 0, .int .u64 0, .slice none 0 0, .slice none 0 0, .slice none 0 0] 31 (0, 0)) := (b4.block _ (by omega)).trans (heap3a _ _ _ _)
    have n2 : w4.heap[w.heap.size + 1 + 1]? = some (.cells #[.int .i64 (m : Nat), .int .i64 (k : Nat), .int .u64 (seed : Nat), .slice a0 L c0, .slice a1 L c1, .slice (some ⟨rb, ro, none⟩) L c2] 31 (0, 0)) := (b4.block _ (by omega)).trans (heap3b _ _ _ _)
    have x1 := cell_of_row w4 (w.heap.size + 1 + 1) 5 _ _ _ n2
    have x2 := frozen_of_row w4 (w.heap.size + 1 + 1) 5 _ _ n2
    have x3 : w.heap.size + 1 + 1 < w4.heap.size := by omega
    simp at x1
    go_wp2_with fail
    have B5 : Below w.heap.size w (w4.setCell ⟨w.heap.size + 1 + 1, 5, none⟩ (.slice (some ⟨g, 0, none⟩) L cp)) := B4.setCell (by show w.heap.size ≤ w.heap.size + 1 + 1; omega) _
    have lb5 := lb.other (Below.heap_setCell w4 ⟨w.heap.size + 1 + 1, 5, none⟩ (.slice (some ⟨g, 0, none⟩) L cp) g (by show g ≠ w.heap.size + 1 + 1; omega))
    refine (touchT _ gp pa pk pc ps g L cp l2 ?hc2 (hip.mono B5) lb5 hlt hlen ?hpg).mono ?_
    case hc2 => exact (B5.cell (p := ⟨gp, 0, none⟩) hgp).trans hcp
    case hpg => intro b o hb0 hk0; have := hip.low b o hb0 hk0; omega
    rintro e w6 ⟨⟨bb, rfl⟩, lb6, b6, z6, o6⟩
    have p2 : w6.heap[w.heap.size + 1 + 1]? = some (.cells #[.int .i64 (m : Nat), .int .i64 (k : Nat), .int .u64 (seed : Nat), .slice a0 L c0, .slice a1 L c1, .slice (some ⟨g, 0, none⟩) L cp] 31 (0, 0)) := (o6 _ (by omega)).trans (Joins.block_setCell n2 _)
    have p1 : w6.heap[w.heap.size + 1]? = some (.cells #[.int .i64 0, .int .i64 0, .int .u64 0, .slice none 0 0, .slice none 0 0, .slice none 0 0] 31 (0, 0)) := (o6 _ (by omega)).trans ((Below.heap_setCell w4 ⟨w.heap.size + 1 + 1, 5, none⟩ _ _ (by show w.heap.size + 1 ≠ w.heap.size + 1 + 1; omega)).trans n1)
    have B6 := B5.trans (b6.mono (by omega))
    clear n1 n2 x1 x2 x3
    go_wp2_with (first | (refine wpList_load_row rfl 31 _ rfl (w.heap.size + 1 + 1) rfl 31 _ _ _ p2 Try.underlying31 rfl (by kernel_rfl) ?_) | (refine store_rec rfl 31 (.tmp 6) (.tmp 31) rfl (w.heap.size + 1) #[.int .i64 (m : Nat), .int .i64 (k : Nat), .int .u64 (seed : Nat), .slice a0 L c0, .slice a1 L c1, .slice (some ⟨g, 0, none⟩) L cp] rfl rfl 31 _ p1 (by kernel_rfl) rfl (by simp [Value.oneCell']) ?_; intro w7 g7 z7 o7 b7))
    have B7 := B6.trans (b7.mono (by omega))
    have q0 := cell_of_row w7 (w.heap.size + 1) 0 _ _ _ g7
    have q1 := cell_of_row w7 (w.heap.size + 1) 1 _ _ _ g7
    have q2 := cell_of_row w7 (w.heap.size + 1) 2 _ _ _ g7
    have q3 := cell_of_row w7 (w.heap.size + 1) 3 _ _ _ g7
    have q4 := cell_of_row w7 (w.heap.size + 1) 4 _ _ _ g7
    have q5 := cell_of_row w7 (w.heap.size + 1) 5 _ _ _ g7
    simp at q0 q1 q2 q3 q4 q5
    have lb7 := (lb6.other (o7 g (by omega))).bytes cp (by omega)
    refine bodyPost_ret (v := .tuple #[.agg #[.int .i64 (m : Nat), .int .i64 (k : Nat), .int .u64 (seed : Nat), .slice a0 L c0, .slice a1 L c1, .slice (some ⟨g, 0, none⟩) L cp], .bool true]) (by simp [results, Try.results21, go_sem, q0, q1, q2, q3, q4, q5]) rfl ⟨⟨_, rfl, ?_⟩, B7⟩
    try rw [if_neg (by decide)]
    exact ⟨m1, m2, k1, k2, sd, a0, a1, (some ⟨g, 0, none⟩), c0, c1, cp, by rw [HL.out], by rw [HL.out]; exact (h0.mono B7), by rw [HL.out]; exact (h1.mono B7), by rw [HL.out]; exact lb7⟩
end Go.Proofs.Ytcnpomejdnpegaa
