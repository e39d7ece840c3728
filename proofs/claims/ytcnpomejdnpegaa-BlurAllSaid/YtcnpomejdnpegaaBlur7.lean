/- blur.flagged, Ones. -/
import Derived.Test.YtcnpomejdnpegaaBlur6
namespace Go.Proofs.Ytcnpomejdnpegaa
open Go.RowKit
set_option linter.unusedVariables false

set_option maxRecDepth 100000 in
set_option maxHeartbeats 1000000 in
theorem flagged_bad (w : World) (v : Value) (m k seed : Nat) (l0 l1 l2 : List Nat) (hb : BlurAt w m k seed v l0 l1 l2) (ky : Value) (fl : Int) (hf : fl < 0 ∨ 2 ≤ fl) :
    Calls Try.prog 24 #[v, ky, .int .i64 fl] w fun e w' => e = .returned (.tuple #[.int .i64 0, .nilFunc, .int .i64 1]) ∧ Below w.heap.size w w' := by
  obtain ⟨a0, a1, a2, c0, c1, c2, rfl, h0, h1, h2⟩ := hb.val
  clear h0 h1 h2 hb
  by_cases h : fl < 0
  · have d1 : decide (fl < 0) = true := by simpa using h
    go_enter Try.func24, Try.ntmps24
    go_wp2_with fail
    go_ret3
    exact ⟨rfl, (Below.refl _ _).alloc (Nat.le_refl _) _⟩
  · have d1 : decide (fl < 0) = false := by simpa using h
    have d2 : decide (2 ≤ fl) = true := by simp; omega
    go_enter Try.func24, Try.ntmps24
    go_wp2_with fail
    go_ret3
    exact ⟨rfl, (Below.refl _ _).alloc (Nat.le_refl _) _⟩
/-- The row of a flag, and what touches the key's bits. -/
def FlagOk (w : World) (ps : List Nat) (fl : Nat) (e : Ending) (w' : World) : Prop := ∃ gp pa pk pc, e = .returned (.tuple #[.int .i64 (1 + (fl : Int)), .func (.func 31) #[] #[.pointer (some ⟨gp, 0, none⟩)], .int .i64 0]) ∧ gp < w'.heap.size ∧ w'.cell? ⟨gp, 0, none⟩ = some (.slice pa pk pc) ∧ IntsAt w' pa pk (nats ps) ∧ Below w.heap.size w w'
set_option maxRecDepth 100000 in
set_option maxHeartbeats 2000000 in
theorem flagged_ok (w : World) (m k seed : Nat) (v : Value) (l0 l1 l2 : List Nat) (ka : Option Addr) (kl kc : Nat) (key : List Nat) (hb : BlurAt w m k seed v l0 l1 l2) (hk : BytesAt w ka kl kc key) (fl : Nat) (hf : fl < 2) (hall : allV l0 (placesN key seed m k) = true) :
    Calls Try.prog 24 #[v, .slice ka kl kc, .int .i64 (fl : Nat)] w (FlagOk w (placesN key seed m k) fl) := by
  have hb0 := hb
  have m1 := hb.m1
  have m2 := hb.m2
  have hpl := placesN_lt key seed m k hb.m1
  obtain ⟨a0, a1, a2, c0, c1, c2, rfl, h0, h1, h2⟩ := hb.val
  obtain ⟨L, hL⟩ : ∃ L, (m + 7) / 8 = L := ⟨_, rfl⟩
  rw [hL] at h0 h1 h2 hb0 ⊢
  have hlen : L ≤ 1000000 := by omega
  have hlt : ∀ p ∈ placesN key seed m k, p < 8 * L := fun p hp => by have := hpl p hp; omega
  obtain ⟨ps, hps⟩ : ∃ ps, placesN key seed m k = ps := ⟨_, rfl⟩
  have hT := fun (w' : World) (h : Below w.heap.size w w') => touching_at w' m k seed _ l0 l1 l2 ka kl kc key (hb0.mono h) (hk.mono h)
  rw [hps] at hlt hT hpl hall ⊢
  clear hL hps hb
  have d1 : decide ((fl : Int) < 0) = false := by simp
  have d2 : decide ((2 : Int) ≤ (fl : Int)) = false := by simp; omega
  have bA : ∀ o : Obj, Below w.heap.size w (w.alloc o) := fun o => (Below.refl _ _).alloc (Nat.le_refl _) _
  go_enter Try.func24, Try.ntmps24
  go_wp2_with fail
  refine (hT _ (bA _)).mono ?_
  rintro e wt ⟨gp, pa, pk, pc, rfl, hgp, hcp, hip, bt⟩
  have t3 : wt.cell? ⟨w.heap.size, 3, none⟩ = some (.slice a0 L c0) := (bt.cell (p := ⟨w.heap.size, 3, none⟩) (by simp)).trans (by simp)
  have t6 := below_then (bA _) bt
  have h0t := h0.mono t6
  clear bt hT hb0
  go_wp2_with fail
  refine (touchF _ gp pa pk pc ps a0 L c0 l0 hcp hip h0t hlt hlen).mono ?_
  rintro e wa ⟨rfl, rfl⟩
  rw [hall]
  go_wp2_with fail
  go_ret3
  exact ⟨gp, pa, pk, pc, by congr 3, hgp, hcp, hip, t6⟩
set_option maxRecDepth 100000 in
set_option maxHeartbeats 2000000 in
theorem flagged_none (w : World) (m k seed : Nat) (v : Value) (l0 l1 l2 : List Nat) (ka : Option Addr) (kl kc : Nat) (key : List Nat) (hb : BlurAt w m k seed v l0 l1 l2) (hk : BytesAt w ka kl kc key) (fl : Nat) (hf : fl < 2) (hall : allV l0 (placesN key seed m k) = false) :
    Calls Try.prog 24 #[v, .slice ka kl kc, .int .i64 (fl : Nat)] w fun e w' => e = .returned (.tuple #[.int .i64 0, .nilFunc, .int .i64 10]) ∧ Below w.heap.size w w' := by
  have hb0 := hb
  have m1 := hb.m1
  have m2 := hb.m2
  have hpl := placesN_lt key seed m k hb.m1
  obtain ⟨a0, a1, a2, c0, c1, c2, rfl, h0, h1, h2⟩ := hb.val
  obtain ⟨L, hL⟩ : ∃ L, (m + 7) / 8 = L := ⟨_, rfl⟩
  rw [hL] at h0 h1 h2 hb0 ⊢
  have hlen : L ≤ 1000000 := by omega
  have hlt : ∀ p ∈ placesN key seed m k, p < 8 * L := fun p hp => by have := hpl p hp; omega
  obtain ⟨ps, hps⟩ : ∃ ps, placesN key seed m k = ps := ⟨_, rfl⟩
  have hT := fun (w' : World) (h : Below w.heap.size w w') => touching_at w' m k seed _ l0 l1 l2 ka kl kc key (hb0.mono h) (hk.mono h)
  rw [hps] at hlt hT hpl hall
  clear hL hps hb
  have d1 : decide ((fl : Int) < 0) = false := by simp
  have d2 : decide ((2 : Int) ≤ (fl : Int)) = false := by simp; omega
  have bA : ∀ o : Obj, Below w.heap.size w (w.alloc o) := fun o => (Below.refl _ _).alloc (Nat.le_refl _) _
  go_enter Try.func24, Try.ntmps24
  go_wp2_with fail
  refine (hT _ (bA _)).mono ?_
  rintro e wt ⟨gp, pa, pk, pc, rfl, hgp, hcp, hip, bt⟩
  have t3 : wt.cell? ⟨w.heap.size, 3, none⟩ = some (.slice a0 L c0) := (bt.cell (p := ⟨w.heap.size, 3, none⟩) (by simp)).trans (by simp)
  have t6 := below_then (bA _) bt
  have h0t := h0.mono t6
  clear bt hT hb0
  go_wp2_with fail
  refine (touchF _ gp pa pk pc ps a0 L c0 l0 hcp hip h0t hlt hlen).mono ?_
  rintro e wa ⟨rfl, rfl⟩
  rw [hall]
  go_wp2_with fail
  go_ret3
  exact ⟨rfl, t6⟩
set_option maxRecDepth 100000 in
set_option maxHeartbeats 2000000 in
theorem ones_any (w : World) (m k seed : Nat) (v : Value) (l0 l1 l2 : List Nat) (hb : BlurAt w m k seed v l0 l1 l2) :
    Calls Try.prog 19 #[v] w fun e w' => e = .returned (.int .i64 (onesV l0 : Nat)) ∧ Below w.heap.size w w' := by
  have m2 := hb.m2
  obtain ⟨a0, a1, a2, c0, c1, c2, rfl, h0, h1, h2⟩ := hb.val
  obtain ⟨L, hL⟩ : ∃ L, (m + 7) / 8 = L := ⟨_, rfl⟩
  rw [hL] at h0 h1 h2 ⊢
  have hlen : L ≤ 1000000 := by omega
  have hl0 := h0.len_eq
  have bA : ∀ o : Obj, Below w.heap.size w (w.alloc o) := fun o => (Below.refl _ _).alloc (Nat.le_refl _) _
  clear hL hb
  go_enter Try.func19, Try.ntmps19
  go_wp2_with fail
  have hw1 := h0.mono (bA (.cells #[.int .i64 (m : Nat), .int .i64 (k : Nat), .int .u64 (seed : Nat), .slice a0 L c0, .slice a1 L c1, .slice a2 L c2] 31))
  go_loop [3, 10] (fun n i => ∃ j : Nat, j ≤ L ∧ i = .int .i64 (j : Nat) ∧ n = .int .i64 (onesV (l0.take j) : Nat)) (fun _ i => L - (intOf i).toNat)
  case atStart => exact ⟨0, Nat.zero_le _, rfl, rfl⟩
  case round =>
    obtain ⟨j, hj, rfl, rfl⟩ := hrel
    by_cases hjl : j < L
    · have f1 : decide (j < L) = true := by simpa using hjl
      obtain ⟨b, off, rfl, hbs, hcell⟩ := hw1.at_.resolve_left (by omega)
      obtain ⟨x, hx⟩ : ∃ x, l0.getD j 0 = x := ⟨_, rfl⟩
      have hcx := hcell j hjl
      rw [hx] at hcx
      have hx256 : x < 256 := by rw [← hx]; exact getD_lt h0.byte j
      obtain ⟨N, hN⟩ : ∃ N, onesV (l0.take j) = N := ⟨_, rfl⟩
      obtain ⟨c, hc⟩ : ∃ c, Lib.onesCount x = c := ⟨_, rfl⟩
      have hsn : onesV (l0.take (j + 1)) = N + c := by
        have e : l0[j]'(by omega) = x := by rw [← hx]; simp [hl0, hjl]
        rw [List.take_succ_eq_append_getElem (by omega), e, ← hN, ← hc]
        simp [onesV]
      have hNb : N ≤ 8 * j := by rw [← hN]; exact ones_le _ _ (by simp; omega) h0.byte
      have hc8 : c ≤ 8 := by rw [← hc]; exact ones_byte x hx256
      rw [hN]
      clear hcell hx hw1
      go_wp2_with fail
      refine (Try.bits_OnesCount8 (x : Int) _ (by omega) (by omega)).mono ?_
      rintro e w2 ⟨rfl, rfl⟩
      rw [Int.toNat_natCast, hc]
      go_wp2_with fail
      exact ⟨⟨j + 1, by omega, by simp, by rw [hsn]; simp⟩, by simp [intOf]; omega⟩
    · have f1 : decide (j < L) = false := by simpa using hjl
      obtain rfl : j = L := by omega
      rw [← hl0, List.take_length]
      go_wp2_with fail
      go_ret
      exact ⟨rfl, bA _⟩
end Go.Proofs.Ytcnpomejdnpegaa
