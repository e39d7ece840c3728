/- blur.Insert, flagged, Set, Get (by gen10b.py). -/
import Derived.Test.YtcnpomejdnpegaaBlur5
namespace Go.Proofs.Ytcnpomejdnpegaa
open Go.RowKit
set_option linter.unusedVariables false

/-- Bytes that came in, behind a store into a record: no record has a byte. -/
theorem BytesAt.recd {w w' : World} {a : Option Addr} {len cap : Nat} {l : List Nat} (h : BytesAt w a len cap l) {g : Nat} {row : Array Value} {t : TypeId} (hg : w.heap[g]? = some (.cells row t (0, 0))) (hno : ∀ (i : Nat) (n : Int), row[i]? ≠ some (.int .u8 n))
    (hs : w'.heap.size = w.heap.size) (ho : ∀ b, b ≠ g → w'.heap[b]? = w.heap[b]?) : BytesAt w' a len cap l := by
  refine ⟨h.1, h.2, h.3, h.4, ?_⟩
  rcases h.5 with h4 | ⟨b, off, ha, hlt, hc⟩
  · exact .inl h4
  · by_cases h0 : len = 0
    · exact .inl h0
    refine .inr ⟨b, off, ha, by rw [hs]; exact hlt, fun i hi => ?_⟩
    have hne : b ≠ g := by
      rintro rfl
      have := hc 0 (by omega)
      rw [cell_of_row _ _ _ _ _ _ hg] at this
      exact hno _ _ this
    rw [← hc i hi]
    exact World.cell?_of_block (ho b hne)
theorem BlurAt.recd {w w' : World} {m k seed : Nat} {v : Value} {l0 l1 l2 : List Nat} (h : BlurAt w m k seed v l0 l1 l2) {g : Nat} {row : Array Value} {t : TypeId} (hg : w.heap[g]? = some (.cells row t (0, 0))) (hno : ∀ (i : Nat) (n : Int), row[i]? ≠ some (.int .u8 n))
    (hs : w'.heap.size = w.heap.size) (ho : ∀ b, b ≠ g → w'.heap[b]? = w.heap[b]?) : BlurAt w' m k seed v l0 l1 l2 := by
  obtain ⟨a0, a1, a2, c0, c1, c2, hv, h0, h1, h2⟩ := h.val
  exact ⟨h.m1, h.m2, h.k1, h.k2, h.sd, a0, a1, a2, c0, c1, c2, hv, h0.recd hg hno hs ho, h1.recd hg hno hs ho, h2.recd hg hno hs ho⟩
theorem zero_no : ∀ (i : Nat) (n : Int), (#[.int .i64 0, .int .i64 0, .int .u64 0, .slice none 0 0, .slice none 0 0, .slice none 0 0] : Array Value)[i]? ≠ some (.int .u8 n) := by
  intro i n
  match i with
  | 0 => simp
  | 1 => simp
  | 2 => simp
  | 3 => simp
  | 4 => simp
  | 5 => simp
  | n + 6 => simp
theorem with0_at (w : World) (m k seed : Nat) (v : Value) (l0 l1 l2 : List Nat) (ps : List Nat) (hb : BlurAt w m k seed v l0 l1 l2) (gp : Nat) (pa : Option Addr) (pk pc : Nat) (hg : gp < w.heap.size) (hc : w.cell? ⟨gp, 0, none⟩ = some (.slice pa pk pc)) (hi : IntsAt w pa pk (nats ps)) (hps : ∀ p ∈ ps, p < m) :
    Calls Try.prog 21 #[v, .int .i64 0, .func (.func 31) #[] #[.pointer (some ⟨gp, 0, none⟩)]] w fun e w' => ∃ b0 b1 b2 d0 d1 d2, e = .returned (.tuple #[.agg #[.int .i64 (m : Nat), .int .i64 (k : Nat), .int .u64 (seed : Nat), .slice b0 ((m + 7) / 8) d0, .slice b1 ((m + 7) / 8) d1, .slice b2 ((m + 7) / 8) d2], .bool (!allV l0 ps)]) ∧ BlurAt w' m k seed (.agg #[.int .i64 (m : Nat), .int .i64 (k : Nat), .int .u64 (seed : Nat), .slice b0 ((m + 7) / 8) d0, .slice b1 ((m + 7) / 8) d1, .slice b2 ((m + 7) / 8) d2]) (if allV l0 ps then l0 else setV l0 ps) l1 l2 ∧ Below w.heap.size w w' := by
  refine (with0_any w m k seed v _ l0 l1 l2 ps hb ⟨gp, pa, pk, pc, rfl, hg, hc, hi⟩ hps).mono ?_
  rintro e w' ⟨⟨v', he, hB⟩, bel⟩
  obtain ⟨b0, b1, b2, d0, d1, d2, hv, h⟩ := hB.val
  subst hv
  exact ⟨b0, b1, b2, d0, d1, d2, he, hB, bel⟩
theorem with1_at (w : World) (m k seed : Nat) (v : Value) (l0 l1 l2 : List Nat) (ps : List Nat) (hb : BlurAt w m k seed v l0 l1 l2) (gp : Nat) (pa : Option Addr) (pk pc : Nat) (hg : gp < w.heap.size) (hc : w.cell? ⟨gp, 0, none⟩ = some (.slice pa pk pc)) (hi : IntsAt w pa pk (nats ps)) (hps : ∀ p ∈ ps, p < m) :
    Calls Try.prog 21 #[v, .int .i64 1, .func (.func 31) #[] #[.pointer (some ⟨gp, 0, none⟩)]] w fun e w' => ∃ b0 b1 b2 d0 d1 d2, e = .returned (.tuple #[.agg #[.int .i64 (m : Nat), .int .i64 (k : Nat), .int .u64 (seed : Nat), .slice b0 ((m + 7) / 8) d0, .slice b1 ((m + 7) / 8) d1, .slice b2 ((m + 7) / 8) d2], .bool (!allV l1 ps)]) ∧ BlurAt w' m k seed (.agg #[.int .i64 (m : Nat), .int .i64 (k : Nat), .int .u64 (seed : Nat), .slice b0 ((m + 7) / 8) d0, .slice b1 ((m + 7) / 8) d1, .slice b2 ((m + 7) / 8) d2]) l0 (if allV l1 ps then l1 else setV l1 ps) l2 ∧ Below w.heap.size w w' := by
  refine (with1_any w m k seed v _ l0 l1 l2 ps hb ⟨gp, pa, pk, pc, rfl, hg, hc, hi⟩ hps).mono ?_
  rintro e w' ⟨⟨v', he, hB⟩, bel⟩
  obtain ⟨b0, b1, b2, d0, d1, d2, hv, h⟩ := hB.val
  subst hv
  exact ⟨b0, b1, b2, d0, d1, d2, he, hB, bel⟩
theorem with2_at (w : World) (m k seed : Nat) (v : Value) (l0 l1 l2 : List Nat) (ps : List Nat) (hb : BlurAt w m k seed v l0 l1 l2) (gp : Nat) (pa : Option Addr) (pk pc : Nat) (hg : gp < w.heap.size) (hc : w.cell? ⟨gp, 0, none⟩ = some (.slice pa pk pc)) (hi : IntsAt w pa pk (nats ps)) (hps : ∀ p ∈ ps, p < m) :
    Calls Try.prog 21 #[v, .int .i64 2, .func (.func 31) #[] #[.pointer (some ⟨gp, 0, none⟩)]] w fun e w' => ∃ b0 b1 b2 d0 d1 d2, e = .returned (.tuple #[.agg #[.int .i64 (m : Nat), .int .i64 (k : Nat), .int .u64 (seed : Nat), .slice b0 ((m + 7) / 8) d0, .slice b1 ((m + 7) / 8) d1, .slice b2 ((m + 7) / 8) d2], .bool (!allV l2 ps)]) ∧ BlurAt w' m k seed (.agg #[.int .i64 (m : Nat), .int .i64 (k : Nat), .int .u64 (seed : Nat), .slice b0 ((m + 7) / 8) d0, .slice b1 ((m + 7) / 8) d1, .slice b2 ((m + 7) / 8) d2]) l0 l1 (if allV l2 ps then l2 else setV l2 ps) ∧ Below w.heap.size w w' := by
  refine (with2_any w m k seed v _ l0 l1 l2 ps hb ⟨gp, pa, pk, pc, rfl, hg, hc, hi⟩ hps).mono ?_
  rintro e w' ⟨⟨v', he, hB⟩, bel⟩
  obtain ⟨b0, b1, b2, d0, d1, d2, hv, h⟩ := hB.val
  subst hv
  exact ⟨b0, b1, b2, d0, d1, d2, he, hB, bel⟩
set_option maxRecDepth 100000 in
set_option maxHeartbeats 8000000 in
theorem insert_any (w : World) (m k seed : Nat) (v : Value) (l0 l1 l2 : List Nat) (ka : Option Addr) (kl kc : Nat) (key : List Nat) (hb : BlurAt w m k seed v l0 l1 l2) (hk : BytesAt w ka kl kc key) :
    Calls Try.prog 11 #[v, .slice ka kl kc] w fun e w' => (∃ v', e = .returned (.tuple #[v', .bool (!allV l0 (placesN key seed m k))]) ∧ BlurAt w' m k seed v' (if allV l0 (placesN key seed m k) then l0 else setV l0 (placesN key seed m k)) l1 l2) ∧ Below w.heap.size w w' := by
  have hb0 := hb
  have m1 := hb.m1
  have m2 := hb.m2
  have hpl := placesN_lt key seed m k hb.m1
  obtain ⟨a0, a1, a2, c0, c1, c2, rfl, h0, h1, h2⟩ := hb.val
  obtain ⟨L, hL⟩ : ∃ L, (m + 7) / 8 = L := ⟨_, rfl⟩
  have hW := fun (w' : World) (v : Value) => @with0_at w' m k seed v l0 l1 l2 (placesN key seed m k)
  rw [hL] at h0 h1 h2 hb0 ⊢
  have hlen : L ≤ 1000000 := by omega
  have hlt : ∀ p ∈ placesN key seed m k, p < 8 * L := fun p hp => by have := hpl p hp; omega
  obtain ⟨ps, hps⟩ : ∃ ps, placesN key seed m k = ps := ⟨_, rfl⟩
  have hT := fun (w' : World) (h : Below w.heap.size w w') => touching_at w' m k seed _ l0 l1 l2 ka kl kc key (hb0.mono h) (hk.mono h)
  rw [hps] at hlt hT hpl hW ⊢
  simp only [hL] at hW
  obtain ⟨R0, hR0⟩ : ∃ R0, (if allV l0 ps then l0 else setV l0 ps) = R0 := ⟨_, rfl⟩
  obtain ⟨F0, hF0⟩ : ∃ F0, (!allV l0 ps) = F0 := ⟨_, rfl⟩
  rw [hR0, hF0] at hW ⊢
  clear hL hps hb hR0 hF0
  have bA : ∀ o o' : Obj, Below w.heap.size w ((w.alloc o).alloc o').drew := fun o o' => (((Below.refl _ _).alloc (Nat.le_refl _) _).alloc (by simp) _).drew
  have hne : w.heap.size ≠ w.heap.size + 1 := Nat.ne_of_lt (Nat.lt_succ_self _)
  have hle : w.heap.size ≤ w.heap.size + 1 := Nat.le_succ _
  go_enter Try.func11, Try.ntmps11
  go_wp2_with fail
  go_region_held3 (fun w' => w'.cell? ⟨w.heap.size, 0, none⟩ = some (.int .i64 (m : Nat)) ∧ w'.cell? ⟨w.heap.size, 1, none⟩ = some (.int .i64 (k : Nat)) ∧ w'.cell? ⟨w.heap.size, 2, none⟩ = some (.int .u64 (seed : Nat)) ∧ w'.cell? ⟨w.heap.size, 3, none⟩ = some (.slice a0 L c0) ∧ w'.cell? ⟨w.heap.size, 4, none⟩ = some (.slice a1 L c1) ∧ w'.cell? ⟨w.heap.size, 5, none⟩ = some (.slice a2 L c2) ∧ Below w.heap.size w w')
    (first | (refine ⟨?_, ?_, ?_, ?_, ?_, ?_, ?_⟩ <;> with_reducible assumption) | (refine ⟨?_, ?_, ?_, ?_, ?_, ?_, ?_⟩; with_reducible exact six_cellU _ _ _ _ _ _ _ _ _ 0 hne u0; with_reducible exact six_cellU _ _ _ _ _ _ _ _ _ 1 hne u1; with_reducible exact six_cellU _ _ _ _ _ _ _ _ _ 2 hne u2; with_reducible exact six_cellU _ _ _ _ _ _ _ _ _ 3 hne u3; with_reducible exact six_cellU _ _ _ _ _ _ _ _ _ 4 hne u4; with_reducible exact six_cellU _ _ _ _ _ _ _ _ _ 5 hne u5; with_reducible exact six_belowU u6 hle _ _ _ _ _ _) | exact ⟨by simp, by simp, by simp, by simp, by simp, by simp, bA _ _⟩)
    (first | (go_at_call 22; refine (hT _ (bA _ _)).mono ?_; rintro e wt ⟨gp, pa, pk, pc, rfl, hgp, hcp, hip, bt⟩; have t0 : wt.cell? ⟨w.heap.size, 0, none⟩ = some (.int .i64 (m : Nat)) := (bt.cell (p := ⟨w.heap.size, 0, none⟩) (by simp <;> omega)).trans (by simp); have t1 : wt.cell? ⟨w.heap.size, 1, none⟩ = some (.int .i64 (k : Nat)) := (bt.cell (p := ⟨w.heap.size, 1, none⟩) (by simp <;> omega)).trans (by simp); have t2 : wt.cell? ⟨w.heap.size, 2, none⟩ = some (.int .u64 (seed : Nat)) := (bt.cell (p := ⟨w.heap.size, 2, none⟩) (by simp <;> omega)).trans (by simp); have t3 : wt.cell? ⟨w.heap.size, 3, none⟩ = some (.slice a0 L c0) := (bt.cell (p := ⟨w.heap.size, 3, none⟩) (by simp <;> omega)).trans (by simp); have t4 : wt.cell? ⟨w.heap.size, 4, none⟩ = some (.slice a1 L c1) := (bt.cell (p := ⟨w.heap.size, 4, none⟩) (by simp <;> omega)).trans (by simp); have t5 : wt.cell? ⟨w.heap.size, 5, none⟩ = some (.slice a2 L c2) := (bt.cell (p := ⟨w.heap.size, 5, none⟩) (by simp <;> omega)).trans (by simp); have t6 := below_then (bA _ _) bt; have t7 : w.heap.size + 1 < wt.heap.size := Nat.lt_of_lt_of_le (by simp) bt.size; have hbt := hb0.mono t6) | (go_at_call 21; refine (hW _ _ hbt gp pa pk pc hgp hcp hip hpl).mono ?_; rintro e wr ⟨b0, b1, b2, d0, d1, d2, rfl, hbr, br⟩; have u0 : wr.cell? ⟨w.heap.size, 0, none⟩ = some (.int .i64 (m : Nat)) := (br.cell (p := ⟨w.heap.size, 0, none⟩) (by show w.heap.size < _; omega)).trans t0; have u1 : wr.cell? ⟨w.heap.size, 1, none⟩ = some (.int .i64 (k : Nat)) := (br.cell (p := ⟨w.heap.size, 1, none⟩) (by show w.heap.size < _; omega)).trans t1; have u2 : wr.cell? ⟨w.heap.size, 2, none⟩ = some (.int .u64 (seed : Nat)) := (br.cell (p := ⟨w.heap.size, 2, none⟩) (by show w.heap.size < _; omega)).trans t2; have u3 : wr.cell? ⟨w.heap.size, 3, none⟩ = some (.slice a0 L c0) := (br.cell (p := ⟨w.heap.size, 3, none⟩) (by show w.heap.size < _; omega)).trans t3; have u4 : wr.cell? ⟨w.heap.size, 4, none⟩ = some (.slice a1 L c1) := (br.cell (p := ⟨w.heap.size, 4, none⟩) (by show w.heap.size < _; omega)).trans t4; have u5 : wr.cell? ⟨w.heap.size, 5, none⟩ = some (.slice a2 L c2) := (br.cell (p := ⟨w.heap.size, 5, none⟩) (by show w.heap.size < _; omega)).trans t5; have u6 := below_then t6 br; have u7 : w.heap.size + 1 < wr.heap.size := Nat.lt_of_lt_of_le t7 br.size; have gz : wr.heap[w.heap.size + 1]? = some (.cells #[.int .i64 0, .int .i64 0, .int .u64 0, .slice none 0 0, .slice none 0 0, .slice none 0 0] 31 (0, 0)) := (br.block _ t7).trans ((bt.block _ (by simp)).trans (heap2 _ _ _)); have v0 := cell_of_row wr (w.heap.size + 1) 0 _ _ _ gz; have g0 := frozen_of_row wr (w.heap.size + 1) 0 _ _ gz; have v1 := cell_of_row wr (w.heap.size + 1) 1 _ _ _ gz; have g1 := frozen_of_row wr (w.heap.size + 1) 1 _ _ gz; have v2 := cell_of_row wr (w.heap.size + 1) 2 _ _ _ gz; have g2 := frozen_of_row wr (w.heap.size + 1) 2 _ _ gz; have v3 := cell_of_row wr (w.heap.size + 1) 3 _ _ _ gz; have g3 := frozen_of_row wr (w.heap.size + 1) 3 _ _ gz; have v4 := cell_of_row wr (w.heap.size + 1) 4 _ _ _ gz; have g4 := frozen_of_row wr (w.heap.size + 1) 4 _ _ gz; have v5 := cell_of_row wr (w.heap.size + 1) 5 _ _ _ gz; have g5 := frozen_of_row wr (w.heap.size + 1) 5 _ _ gz; simp at v0 v1 v2 v3 v4 v5; clear hcp hip t0 t1 t2 t3 t4 t5 t6 t7 hbt hT hW))
  go_wp2
  have gy := six_row wr (w.heap.size + 1) (.int .i64 (m : Nat)) (.int .i64 (k : Nat)) (.int .u64 (seed : Nat)) (.slice b0 L d0) (.slice b1 L d1) (.slice b2 L d2) _ _ _ _ _ _ _ gz
  obtain ⟨wz, hwz⟩ : ∃ wz, six wr (w.heap.size + 1) (.int .i64 (m : Nat)) (.int .i64 (k : Nat)) (.int .u64 (seed : Nat)) (.slice b0 L d0) (.slice b1 L d1) (.slice b2 L d2) = wz := ⟨_, rfl⟩
  have zz := six_size wr (w.heap.size + 1) (.int .i64 (m : Nat)) (.int .i64 (k : Nat)) (.int .u64 (seed : Nat)) (.slice b0 L d0) (.slice b1 L d1) (.slice b2 L d2)
  have oz := six_other wr (w.heap.size + 1) (.int .i64 (m : Nat)) (.int .i64 (k : Nat)) (.int .u64 (seed : Nat)) (.slice b0 L d0) (.slice b1 L d1) (.slice b2 L d2)
  have x6 := six_below u6 (Nat.le_succ _) (.int .i64 (m : Nat)) (.int .i64 (k : Nat)) (.int .u64 (seed : Nat)) (.slice b0 L d0) (.slice b1 L d1) (.slice b2 L d2)
  rw [hwz] at gy zz oz x6
  change bodyPost _ _ _ _ _ (six wr (w.heap.size + 1) (.int .i64 (m : Nat)) (.int .i64 (k : Nat)) (.int .u64 (seed : Nat)) (.slice b0 L d0) (.slice b1 L d1) (.slice b2 L d2))
  rw [hwz]
  have q0 := cell_of_row wz (w.heap.size + 1) 0 _ _ _ gy
  have q1 := cell_of_row wz (w.heap.size + 1) 1 _ _ _ gy
  have q2 := cell_of_row wz (w.heap.size + 1) 2 _ _ _ gy
  have q3 := cell_of_row wz (w.heap.size + 1) 3 _ _ _ gy
  have q4 := cell_of_row wz (w.heap.size + 1) 4 _ _ _ gy
  have q5 := cell_of_row wz (w.heap.size + 1) 5 _ _ _ gy
  simp at q0 q1 q2 q3 q4 q5
  exact bodyPost_ret (v := .tuple #[.agg #[.int .i64 (m : Nat), .int .i64 (k : Nat), .int .u64 (seed : Nat), .slice b0 L d0, .slice b1 L d1, .slice b2 L d2], .bool F0]) (by simp [results, Try.results11, go_sem, q0, q1, q2, q3, q4, q5]) rfl ⟨⟨_, rfl, hbr.recd gz zero_no zz oz⟩, x6⟩
end Go.Proofs.Ytcnpomejdnpegaa
