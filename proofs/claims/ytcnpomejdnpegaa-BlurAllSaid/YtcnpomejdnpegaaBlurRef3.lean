/- The document's store: Get, New (by gen10r.py). -/
import Derived.Test.YtcnpomejdnpegaaBlurRef2
namespace Go.Proofs.Ytcnpomejdnpegaa
open Go.RowKit
set_option linter.unusedVariables false

set_option maxRecDepth 100000 in
set_option maxHeartbeats 2000000 in
theorem refGet_bad (w : World) (m k seed : Nat) (v : Value) (on0 on1 on2 : List Nat) (ky : Value) (hb : RefAt w m k seed v on0 on1 on2) (fl : Int) (hf : fl < 0 ∨ 2 ≤ fl) :
    Calls Try.prog 16 #[v, ky, .int .i64 fl] w fun e w' => e = .returned (.tuple #[.bool false, .int .i64 1]) ∧ Below w.heap.size w w' := by
  obtain ⟨a0, a1, a2, n0, n1, n2, c0, c1, c2, rfl, h0, h1, h2⟩ := hb.val
  have bA : ∀ o : Obj, Below w.heap.size w (w.alloc o) := fun o => (Below.refl _ _).alloc (Nat.le_refl _) _
  clear hb h0 h1 h2
  go_enter Try.func16, Try.ntmps16
  by_cases h : fl < 0
  · have f1 : decide (fl < 0) = true := by simpa using h
    go_wp2_with fail
    go_ret2
    exact ⟨rfl, bA _⟩
  · have f1 : decide (fl < 0) = false := by simpa using h
    have f2 : decide (1 < fl) = true := by simp; omega
    go_wp2_with fail
    go_ret2
    exact ⟨rfl, bA _⟩

set_option maxRecDepth 100000 in
set_option maxHeartbeats 2000000 in
theorem refGet0_none (w : World) (m k seed : Nat) (v : Value) (on0 on1 on2 : List Nat) (ka : Option Addr) (kl kc : Nat) (key : List Nat) (hb : RefAt w m k seed v on0 on1 on2) (hk : BytesAt w ka kl kc key) (hall : (placesN key seed m k).all (fun p => decide (p ∈ on0)) = false) :
    Calls Try.prog 16 #[v, .slice ka kl kc, .int .i64 0] w fun e w' => e = .returned (.tuple #[.bool false, .int .i64 10]) ∧ Below w.heap.size w w' := by
  obtain ⟨a0, a1, a2, n0, n1, n2, c0, c1, c2, rfl, h0, h1, h2⟩ := hb.val
  have bA : ∀ o : Obj, Below w.heap.size w (w.alloc o) := fun o => (Below.refl _ _).alloc (Nat.le_refl _) _
  have hF := fun (w' : World) (h : Below w.heap.size w w') => refMember_any w' m k seed _ on0 on1 on2 ka kl kc key (hb.mono h) (hk.mono h)
  rw [hall] at hF
  clear hb h0 h1 h2 hall
  go_enter Try.func16, Try.ntmps16
  go_wp2_with fail
  refine (hF _ (bA _)).mono ?_
  rintro e w1 ⟨rfl, b1⟩
  go_wp2_with fail
  go_ret2
  exact ⟨rfl, below_then (bA _) b1⟩

set_option maxRecDepth 100000 in
set_option maxHeartbeats 4000000 in
theorem refGet0_ok (w : World) (m k seed : Nat) (v : Value) (on0 on1 on2 : List Nat) (ka : Option Addr) (kl kc : Nat) (key : List Nat) (hb : RefAt w m k seed v on0 on1 on2) (hk : BytesAt w ka kl kc key) (hall : (placesN key seed m k).all (fun p => decide (p ∈ on0)) = true) :
    Calls Try.prog 16 #[v, .slice ka kl kc, .int .i64 0] w fun e w' => e = .returned (.tuple #[.bool ((placesN key seed m k).all (fun p => decide (p ∈ on1))), .int .i64 0]) ∧ Below w.heap.size w w' := by
  have m2 := hb.m2
  have k1 := hb.k1
  have k2 := hb.k2
  have sd := hb.sd
  obtain ⟨a0, a1, a2, n0, n1, n2, c0, c1, c2, rfl, h0, h1, h2⟩ := hb.val
  have bA : ∀ o : Obj, Below w.heap.size w (w.alloc o) := fun o => (Below.refl _ _).alloc (Nat.le_refl _) _
  have hF := fun (w' : World) (h : Below w.heap.size w w') => refMember_any w' m k seed _ on0 on1 on2 ka kl kc key (hb.mono h) (hk.mono h)
  rw [hall] at hF
  obtain ⟨ps, hps⟩ : ∃ ps, placesN key seed m k = ps := ⟨_, rfl⟩
  have hP := fun (w' : World) (h : Below w.heap.size w w') => refPlacesN w' ka kl kc key seed m k sd m2 k1 k2 (hk.mono h)
  rw [hps] at hP ⊢
  obtain ⟨T, hT⟩ : ∃ T, ps.all (fun p => decide (p ∈ on1)) = T := ⟨_, rfl⟩
  have hA := fun (w' : World) (h : Below w.heap.size w w') (pa : Option Addr) (pc : Nat) (hp : NatsAt w' pa k pc ps) => all_any w' a1 n1 c1 on1 pa k pc ps (h1.mono h) hp
  rw [hT] at hA ⊢
  clear hps hT hb h0 h1 h2 hall
  go_enter Try.func16, Try.ntmps16
  go_wp2_with fail
  refine (hF _ (bA _)).mono ?_
  rintro e w1 ⟨rfl, b1⟩
  have t6 := (below_then (bA _) b1).drew
  have z1 : w.heap.size < w1.drew.heap.size := Nat.lt_of_lt_of_le (by simp) b1.size
  have x0 : w1.drew.cell? ⟨w.heap.size, 0, none⟩ = some (.int .i64 (m : Nat)) := by
    rw [World.cell?_drew]
    exact (b1.cell (p := ⟨w.heap.size, 0, none⟩) (by simp)).trans (by simp)
  have x1 : w1.drew.cell? ⟨w.heap.size, 1, none⟩ = some (.int .i64 (k : Nat)) := by
    rw [World.cell?_drew]
    exact (b1.cell (p := ⟨w.heap.size, 1, none⟩) (by simp)).trans (by simp)
  have x2 : w1.drew.cell? ⟨w.heap.size, 2, none⟩ = some (.int .u64 (seed : Nat)) := by
    rw [World.cell?_drew]
    exact (b1.cell (p := ⟨w.heap.size, 2, none⟩) (by simp)).trans (by simp)
  have x4 : w1.drew.cell? ⟨w.heap.size, 4, none⟩ = some (.slice a1 n1 c1) := by
    rw [World.cell?_drew]
    exact (b1.cell (p := ⟨w.heap.size, 4, none⟩) (by simp)).trans (by simp)
  have e1 : IntKind.i64.wrap (1 : Int) = 1 := by decide
  clear b1 hF
  go_wp2_with fail
  go_region_held3 (fun w' => w'.cell? ⟨w.heap.size, 0, none⟩ = some (.int .i64 (m : Nat)) ∧ w'.cell? ⟨w.heap.size, 1, none⟩ = some (.int .i64 (k : Nat)) ∧ w'.cell? ⟨w.heap.size, 2, none⟩ = some (.int .u64 (seed : Nat)) ∧ w'.cell? ⟨w.heap.size, 4, none⟩ = some (.slice a1 n1 c1) ∧ Below w.heap.size w w')
    (first | exact ⟨by with_reducible assumption, by with_reducible assumption, by with_reducible assumption, by with_reducible assumption, by with_reducible assumption⟩)
    (first | (go_at_call 20; refine (hP _ t6).mono ?_; rintro e wt ⟨pa, pc, rfl, hip, bt⟩; have t0 : wt.cell? ⟨w.heap.size, 0, none⟩ = some (.int .i64 (m : Nat)) := (bt.cell (p := ⟨w.heap.size, 0, none⟩) z1).trans x0; have t1 : wt.cell? ⟨w.heap.size, 1, none⟩ = some (.int .i64 (k : Nat)) := (bt.cell (p := ⟨w.heap.size, 1, none⟩) z1).trans x1; have t2 : wt.cell? ⟨w.heap.size, 2, none⟩ = some (.int .u64 (seed : Nat)) := (bt.cell (p := ⟨w.heap.size, 2, none⟩) z1).trans x2; have t4 : wt.cell? ⟨w.heap.size, 4, none⟩ = some (.slice a1 n1 c1) := (bt.cell (p := ⟨w.heap.size, 4, none⟩) z1).trans x4; have bw := below_then t6 bt) | (go_at_call 25; refine (hA _ bw _ _ hip).mono ?_; rintro e _ ⟨rfl, rfl⟩))
  go_wp2
  go_ret2
  exact ⟨rfl, bw⟩

set_option maxRecDepth 100000 in
set_option maxHeartbeats 2000000 in
theorem refGet1_none (w : World) (m k seed : Nat) (v : Value) (on0 on1 on2 : List Nat) (ka : Option Addr) (kl kc : Nat) (key : List Nat) (hb : RefAt w m k seed v on0 on1 on2) (hk : BytesAt w ka kl kc key) (hall : (placesN key seed m k).all (fun p => decide (p ∈ on0)) = false) :
    Calls Try.prog 16 #[v, .slice ka kl kc, .int .i64 1] w fun e w' => e = .returned (.tuple #[.bool false, .int .i64 10]) ∧ Below w.heap.size w w' := by
  obtain ⟨a0, a1, a2, n0, n1, n2, c0, c1, c2, rfl, h0, h1, h2⟩ := hb.val
  have bA : ∀ o : Obj, Below w.heap.size w (w.alloc o) := fun o => (Below.refl _ _).alloc (Nat.le_refl _) _
  have hF := fun (w' : World) (h : Below w.heap.size w w') => refMember_any w' m k seed _ on0 on1 on2 ka kl kc key (hb.mono h) (hk.mono h)
  rw [hall] at hF
  clear hb h0 h1 h2 hall
  go_enter Try.func16, Try.ntmps16
  go_wp2_with fail
  refine (hF _ (bA _)).mono ?_
  rintro e w1 ⟨rfl, b1⟩
  go_wp2_with fail
  go_ret2
  exact ⟨rfl, below_then (bA _) b1⟩

set_option maxRecDepth 100000 in
set_option maxHeartbeats 4000000 in
theorem refGet1_ok (w : World) (m k seed : Nat) (v : Value) (on0 on1 on2 : List Nat) (ka : Option Addr) (kl kc : Nat) (key : List Nat) (hb : RefAt w m k seed v on0 on1 on2) (hk : BytesAt w ka kl kc key) (hall : (placesN key seed m k).all (fun p => decide (p ∈ on0)) = true) :
    Calls Try.prog 16 #[v, .slice ka kl kc, .int .i64 1] w fun e w' => e = .returned (.tuple #[.bool ((placesN key seed m k).all (fun p => decide (p ∈ on2))), .int .i64 0]) ∧ Below w.heap.size w w' := by
  have m2 := hb.m2
  have k1 := hb.k1
  have k2 := hb.k2
  have sd := hb.sd
  obtain ⟨a0, a1, a2, n0, n1, n2, c0, c1, c2, rfl, h0, h1, h2⟩ := hb.val
  have bA : ∀ o : Obj, Below w.heap.size w (w.alloc o) := fun o => (Below.refl _ _).alloc (Nat.le_refl _) _
  have hF := fun (w' : World) (h : Below w.heap.size w w') => refMember_any w' m k seed _ on0 on1 on2 ka kl kc key (hb.mono h) (hk.mono h)
  rw [hall] at hF
  obtain ⟨ps, hps⟩ : ∃ ps, placesN key seed m k = ps := ⟨_, rfl⟩
  have hP := fun (w' : World) (h : Below w.heap.size w w') => refPlacesN w' ka kl kc key seed m k sd m2 k1 k2 (hk.mono h)
  rw [hps] at hP ⊢
  obtain ⟨T, hT⟩ : ∃ T, ps.all (fun p => decide (p ∈ on2)) = T := ⟨_, rfl⟩
  have hA := fun (w' : World) (h : Below w.heap.size w w') (pa : Option Addr) (pc : Nat) (hp : NatsAt w' pa k pc ps) => all_any w' a2 n2 c2 on2 pa k pc ps (h2.mono h) hp
  rw [hT] at hA ⊢
  clear hps hT hb h0 h1 h2 hall
  go_enter Try.func16, Try.ntmps16
  go_wp2_with fail
  refine (hF _ (bA _)).mono ?_
  rintro e w1 ⟨rfl, b1⟩
  have t6 := (below_then (bA _) b1).drew
  have z1 : w.heap.size < w1.drew.heap.size := Nat.lt_of_lt_of_le (by simp) b1.size
  have x0 : w1.drew.cell? ⟨w.heap.size, 0, none⟩ = some (.int .i64 (m : Nat)) := by
    rw [World.cell?_drew]
    exact (b1.cell (p := ⟨w.heap.size, 0, none⟩) (by simp)).trans (by simp)
  have x1 : w1.drew.cell? ⟨w.heap.size, 1, none⟩ = some (.int .i64 (k : Nat)) := by
    rw [World.cell?_drew]
    exact (b1.cell (p := ⟨w.heap.size, 1, none⟩) (by simp)).trans (by simp)
  have x2 : w1.drew.cell? ⟨w.heap.size, 2, none⟩ = some (.int .u64 (seed : Nat)) := by
    rw [World.cell?_drew]
    exact (b1.cell (p := ⟨w.heap.size, 2, none⟩) (by simp)).trans (by simp)
  have x5 : w1.drew.cell? ⟨w.heap.size, 5, none⟩ = some (.slice a2 n2 c2) := by
    rw [World.cell?_drew]
    exact (b1.cell (p := ⟨w.heap.size, 5, none⟩) (by simp)).trans (by simp)
  have e1 : IntKind.i64.wrap (2 : Int) = 2 := by decide
  clear b1 hF
  go_wp2_with fail
  go_region_held3 (fun w' => w'.cell? ⟨w.heap.size, 0, none⟩ = some (.int .i64 (m : Nat)) ∧ w'.cell? ⟨w.heap.size, 1, none⟩ = some (.int .i64 (k : Nat)) ∧ w'.cell? ⟨w.heap.size, 2, none⟩ = some (.int .u64 (seed : Nat)) ∧ w'.cell? ⟨w.heap.size, 5, none⟩ = some (.slice a2 n2 c2) ∧ Below w.heap.size w w')
    (first | exact ⟨by with_reducible assumption, by with_reducible assumption, by with_reducible assumption, by with_reducible assumption, by with_reducible assumption⟩)
    (first | (go_at_call 20; refine (hP _ t6).mono ?_; rintro e wt ⟨pa, pc, rfl, hip, bt⟩; have t0 : wt.cell? ⟨w.heap.size, 0, none⟩ = some (.int .i64 (m : Nat)) := (bt.cell (p := ⟨w.heap.size, 0, none⟩) z1).trans x0; have t1 : wt.cell? ⟨w.heap.size, 1, none⟩ = some (.int .i64 (k : Nat)) := (bt.cell (p := ⟨w.heap.size, 1, none⟩) z1).trans x1; have t2 : wt.cell? ⟨w.heap.size, 2, none⟩ = some (.int .u64 (seed : Nat)) := (bt.cell (p := ⟨w.heap.size, 2, none⟩) z1).trans x2; have t5 : wt.cell? ⟨w.heap.size, 5, none⟩ = some (.slice a2 n2 c2) := (bt.cell (p := ⟨w.heap.size, 5, none⟩) z1).trans x5; have bw := below_then t6 bt) | (go_at_call 25; refine (hA _ bw _ _ hip).mono ?_; rintro e _ ⟨rfl, rfl⟩))
  go_wp2
  go_ret2
  exact ⟨rfl, bw⟩

set_option maxRecDepth 100000 in
set_option maxHeartbeats 2000000 in
theorem refNew_bad (w : World) (m k : Int) (seed : Nat) (h : ¬ (1 ≤ m ∧ m ≤ 4194304 ∧ 1 ≤ k ∧ k ≤ 16)) :
    Calls Try.prog 10 #[.int .i64 m, .int .i64 k, .int .u64 (seed : Nat)] w fun e w' => e = .returned (.tuple #[.agg #[.int .i64 0, .int .i64 0, .int .u64 0, .slice none 0 0, .slice none 0 0, .slice none 0 0], .int .i64 1]) ∧ Below w.heap.size w w' := by
  by_cases e1 : m < 1
  · have d1 : decide (m < 1) = true := by simpa using e1
    go_enter Try.func10, Try.ntmps10
    go_wp2_with fail
    exact bodyPost_ret (v := .tuple #[.agg #[.int .i64 0, .int .i64 0, .int .u64 0, .slice none 0 0, .slice none 0 0, .slice none 0 0], .int .i64 1]) (by simp [results, Try.results10, go_sem]) rfl ⟨rfl, (Below.refl _ _).alloc (Nat.le_refl _) _⟩
  have d1 : decide (m < 1) = false := by simpa using e1
  by_cases e2 : 4194304 < m
  · have d2 : decide (4194304 < m) = true := by simpa using e2
    go_enter Try.func10, Try.ntmps10
    go_wp2_with fail
    exact bodyPost_ret (v := .tuple #[.agg #[.int .i64 0, .int .i64 0, .int .u64 0, .slice none 0 0, .slice none 0 0, .slice none 0 0], .int .i64 1]) (by simp [results, Try.results10, go_sem]) rfl ⟨rfl, (Below.refl _ _).alloc (Nat.le_refl _) _⟩
  have d2 : decide (4194304 < m) = false := by simpa using e2
  by_cases e3 : k < 1
  · have d3 : decide (k < 1) = true := by simpa using e3
    go_enter Try.func10, Try.ntmps10
    go_wp2_with fail
    exact bodyPost_ret (v := .tuple #[.agg #[.int .i64 0, .int .i64 0, .int .u64 0, .slice none 0 0, .slice none 0 0, .slice none 0 0], .int .i64 1]) (by simp [results, Try.results10, go_sem]) rfl ⟨rfl, (Below.refl _ _).alloc (Nat.le_refl _) _⟩
  have d3 : decide (k < 1) = false := by simpa using e3
  have d4 : decide (16 < k) = true := by simp; omega
  go_enter Try.func10, Try.ntmps10
  go_wp2_with fail
  exact bodyPost_ret (v := .tuple #[.agg #[.int .i64 0, .int .i64 0, .int .u64 0, .slice none 0 0, .slice none 0 0, .slice none 0 0], .int .i64 1]) (by simp [results, Try.results10, go_sem]) rfl ⟨rfl, (Below.refl _ _).alloc (Nat.le_refl _) _⟩

set_option maxRecDepth 100000 in
set_option maxHeartbeats 2000000 in
theorem refNew_ok (w : World) (m k seed : Nat) (m1 : 1 ≤ m) (m2 : m ≤ 4194304) (k1 : 1 ≤ k) (k2 : k ≤ 16) :
    Calls Try.prog 10 #[.int .i64 (m : Nat), .int .i64 (k : Nat), .int .u64 (seed : Nat)] w fun e w' => e = .returned (.tuple #[.agg #[.int .i64 (m : Nat), .int .i64 (k : Nat), .int .u64 (seed : Nat), .slice none 0 0, .slice none 0 0, .slice none 0 0], .int .i64 0]) ∧ Below w.heap.size w w' := by
  have d1 : decide ((m : Int) < 1) = false := by simp; omega
  have d2 : decide ((4194304 : Int) < (m : Int)) = false := by simp; omega
  have d3 : decide ((k : Int) < 1) = false := by simp; omega
  have d4 : decide ((16 : Int) < (k : Int)) = false := by simp; omega
  go_enter Try.func10, Try.ntmps10
  go_wp2_with fail
  exact bodyPost_ret (v := .tuple #[.agg #[.int .i64 (m : Nat), .int .i64 (k : Nat), .int .u64 (seed : Nat), .slice none 0 0, .slice none 0 0, .slice none 0 0], .int .i64 0]) (by simp [results, Try.results10, go_sem]) rfl ⟨rfl, (Below.refl _ _).alloc (Nat.le_refl _) _⟩
theorem RefAt.zero (w : World) (m k seed : Nat) (m1 : 1 ≤ m) (m2 : m ≤ 4194304) (k1 : 1 ≤ k) (k2 : k ≤ 16) (sd : seed < 18446744073709551616) :
    RefAt w m k seed (.agg #[.int .i64 (m : Nat), .int .i64 (k : Nat), .int .u64 (seed : Nat), .slice none 0 0, .slice none 0 0, .slice none 0 0]) [] [] [] := by
  have z : NatsAt w none 0 0 [] := ⟨⟨rfl, by omega, .inl rfl⟩, fun _ => ⟨rfl, rfl⟩⟩
  exact ⟨⟨none, none, none, 0, 0, 0, 0, 0, 0, rfl, z, z, z⟩, m1, m2, k1, k2, sd⟩
end Go.Proofs.Ytcnpomejdnpegaa
