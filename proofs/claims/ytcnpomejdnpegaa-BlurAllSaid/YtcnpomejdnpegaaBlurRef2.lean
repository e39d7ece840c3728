/- The document's store: New, Member, Get. -/
import Derived.Test.YtcnpomejdnpegaaBlurRef1
import Derived.Test.YtcnpomejdnpegaaBlur5
namespace Go.Proofs.Ytcnpomejdnpegaa
open Go.RowKit
set_option linter.unusedVariables false

/-- The document's store. -/
structure RefAt (w : World) (m k seed : Nat) (v : Value) (on0 on1 on2 : List Nat) : Prop where
  val : ∃ a0 a1 a2 n0 n1 n2 c0 c1 c2, v = .agg #[.int .i64 (m : Nat), .int .i64 (k : Nat), .int .u64 (seed : Nat), .slice a0 n0 c0, .slice a1 n1 c1, .slice a2 n2 c2] ∧ NatsAt w a0 n0 c0 on0 ∧ NatsAt w a1 n1 c1 on1 ∧ NatsAt w a2 n2 c2 on2
  m1 : 1 ≤ m
  m2 : m ≤ 4194304
  k1 : 1 ≤ k
  k2 : k ≤ 16
  sd : seed < 18446744073709551616
/-- The rows of a store lie in blocks of a kind. -/
def OffAt (Q : Nat → Prop) (v : Value) : Prop := ∀ vs, v = .agg vs → ∀ (j : Nat) (a : Addr) (n c : Nat), vs[j]? = some (.slice (some a) n c) → Q a.block
theorem offAt_row {Q : Nat → Prop} {m k s : Int} {a0 a1 a2 : Option Addr} {n0 n1 n2 c0 c1 c2 : Nat} :
    OffAt Q (.agg #[.int .i64 m, .int .i64 k, .int .u64 s, .slice a0 n0 c0, .slice a1 n1 c1, .slice a2 n2 c2]) ↔ (∀ x, a0 = some x → Q x.block) ∧ (∀ x, a1 = some x → Q x.block) ∧ (∀ x, a2 = some x → Q x.block) := by
  constructor
  · intro h
    refine ⟨fun x hx => ?_, fun x hx => ?_, fun x hx => ?_⟩
    · subst hx; exact h _ rfl 3 x n0 c0 rfl
    · subst hx; exact h _ rfl 4 x n1 c1 rfl
    · subst hx; exact h _ rfl 5 x n2 c2 rfl
  · rintro ⟨h0, h1, h2⟩ vs hv j a n c hj
    injection hv with hv
    subst hv
    match j with
    | 0 => simp at hj
    | 1 => simp at hj
    | 2 => simp at hj
    | 3 => simp at hj; exact h0 _ hj.1
    | 4 => simp at hj; exact h1 _ hj.1
    | 5 => simp at hj; exact h2 _ hj.1
    | j + 6 => simp at hj
theorem RefAt.mono {w w' : World} {m k seed : Nat} {v : Value} {on0 on1 on2 : List Nat} (h : RefAt w m k seed v on0 on1 on2) (hb : Below w.heap.size w w') : RefAt w' m k seed v on0 on1 on2 := by
  obtain ⟨a0, a1, a2, n0, n1, n2, c0, c1, c2, hv, h0, h1, h2⟩ := h.val
  exact ⟨⟨a0, a1, a2, n0, n1, n2, c0, c1, c2, hv, h0.mono hb, h1.mono hb, h2.mono hb⟩, h.2, h.3, h.4, h.5, h.6⟩
theorem refPlacesN (w : World) (ka : Option Addr) (kl kc : Nat) (key : List Nat) (seed m k : Nat) (hs : seed < 18446744073709551616) (m2 : m ≤ 4194304) (k1 : 1 ≤ k) (k2 : k ≤ 16) (hk : BytesAt w ka kl kc key) :
    Calls Try.prog 20 #[.slice ka kl kc, .int .u64 (seed : Nat), .int .i64 (k : Nat), .int .i64 (m : Nat)] w fun e w' => ∃ pa pc, e = .returned (.slice pa k pc) ∧ NatsAt w' pa k pc (placesN key seed m k) ∧ Below w.heap.size w w' := by
  refine (refPlaces_any w ka kl kc key seed hs k k (by simp) (by omega) (by omega) m (by omega) (by omega) hk).mono ?_
  rintro e w' ⟨a, cap, rfl, hi, hb⟩
  refine ⟨a, cap, rfl, ⟨?_, ?_⟩, hb⟩
  · rw [show natI (placesN key seed m k) = placesS key seed m k from placesN_nats key seed m k]
    exact hi
  · intro ha
    subst ha
    rcases hi.at_ with h0 | ⟨b, off, h, _⟩
    · omega
    · cases h
set_option maxRecDepth 100000 in
set_option maxHeartbeats 4000000 in
theorem refMember_any (w : World) (m k seed : Nat) (v : Value) (on0 on1 on2 : List Nat) (ka : Option Addr) (kl kc : Nat) (key : List Nat) (hb : RefAt w m k seed v on0 on1 on2) (hk : BytesAt w ka kl kc key) :
    Calls Try.prog 18 #[v, .slice ka kl kc] w fun e w' => e = .returned (.bool ((placesN key seed m k).all (fun p => decide (p ∈ on0)))) ∧ Below w.heap.size w w' := by
  have m2 := hb.m2
  have k1 := hb.k1
  have k2 := hb.k2
  have sd := hb.sd
  obtain ⟨a0, a1, a2, n0, n1, n2, c0, c1, c2, rfl, h0, h1, h2⟩ := hb.val
  have bA : ∀ o : Obj, Below w.heap.size w (w.alloc o).drew := fun o => ((Below.refl _ _).alloc (Nat.le_refl _) _).drew
  obtain ⟨ps, hps⟩ : ∃ ps, placesN key seed m k = ps := ⟨_, rfl⟩
  have hP := fun (w' : World) (h : Below w.heap.size w w') => refPlacesN w' ka kl kc key seed m k sd m2 k1 k2 (hk.mono h)
  rw [hps] at hP ⊢
  obtain ⟨T, hT⟩ : ∃ T, ps.all (fun p => decide (p ∈ on0)) = T := ⟨_, rfl⟩
  have hA := fun (w' : World) (h : Below w.heap.size w w') (pa : Option Addr) (pc : Nat) (hp : NatsAt w' pa k pc ps) => all_any w' a0 n0 c0 on0 pa k pc ps (h0.mono h) hp
  rw [hT] at hA ⊢
  clear hps hT hb h1 h2
  go_enter Try.func18, Try.ntmps18
  go_wp2_with fail
  go_region_held3 (fun w' => w'.cell? ⟨w.heap.size, 0, none⟩ = some (.int .i64 (m : Nat)) ∧ w'.cell? ⟨w.heap.size, 1, none⟩ = some (.int .i64 (k : Nat)) ∧ w'.cell? ⟨w.heap.size, 2, none⟩ = some (.int .u64 (seed : Nat)) ∧ w'.cell? ⟨w.heap.size, 3, none⟩ = some (.slice a0 n0 c0) ∧ Below w.heap.size w w')
    (first | exact ⟨by simp, by simp, by simp, by simp, bA _⟩ | exact ⟨by assumption, by assumption, by assumption, by assumption, by assumption⟩)
    (first | (go_at_call 20; refine (hP _ (bA _)).mono ?_; rintro e wt ⟨pa, pc, rfl, hip, bt⟩; have t0 : wt.cell? ⟨w.heap.size, 0, none⟩ = some (.int .i64 (m : Nat)) := (bt.cell (p := ⟨w.heap.size, 0, none⟩) (by simp)).trans (by simp); have t1 : wt.cell? ⟨w.heap.size, 1, none⟩ = some (.int .i64 (k : Nat)) := (bt.cell (p := ⟨w.heap.size, 1, none⟩) (by simp)).trans (by simp); have t2 : wt.cell? ⟨w.heap.size, 2, none⟩ = some (.int .u64 (seed : Nat)) := (bt.cell (p := ⟨w.heap.size, 2, none⟩) (by simp)).trans (by simp); have t3 : wt.cell? ⟨w.heap.size, 3, none⟩ = some (.slice a0 n0 c0) := (bt.cell (p := ⟨w.heap.size, 3, none⟩) (by simp)).trans (by simp); have bw := below_then (bA _) bt) | (go_at_call 25; refine (hA _ bw _ _ hip).mono ?_; rintro e _ ⟨rfl, rfl⟩))
  go_wp2
  go_ret
  exact ⟨rfl, by assumption⟩
end Go.Proofs.Ytcnpomejdnpegaa
