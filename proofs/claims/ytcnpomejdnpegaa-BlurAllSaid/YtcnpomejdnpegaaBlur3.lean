/- blur.touching, with. -/
import Derived.Test.YtcnpomejdnpegaaBlur2
import Derived.StillTailTactics
import Derived.WalkMore
import Derived.Laws.Tables
import Derived.Laws.CopyOwn
namespace Go.Proofs.Ytcnpomejdnpegaa
open Go.RowKit
set_option linter.unusedVariables false

/-- A whole record stored into a block of its size. -/
theorem store_rec {P : Program} {ops : Array Oper} {rest : List Oper} {o : Oper} {a : Act} {w : World} {Q : Exit → Act → World → Prop} (hgd : o.guard = none) (ty : TypeId) (x y : Operand) (ho : o.op = .store ty x y)
    (g : Nat) (row : Array Value) (hx : a.eval x = .pointer (some ⟨g, 0, none⟩)) (hy : a.eval y = .agg row)
    (t : TypeId) (old : Array Value) (hg : w.heap[g]? = some (.cells old t (0, 0))) (hi : (P.info? ty).map (·.size) = some row.size)
    (hold : old.size = row.size) (h1 : row.all (·.oneCell') = true)
    (h : ∀ w1, w1.heap[g]? = some (.cells row t (0, 0)) → w1.heap.size = w.heap.size → (∀ b, b ≠ g → w1.heap[b]? = w.heap[b]?) → Below g w w1 → wpList P ops Q rest (a.put o.dst undef) w1) : wpList P ops Q (o :: rest) a w :=
  wpList_store_row hgd ty x y ho g row hx hy t old hg hi hold h1 (h _ (setRow_heap w g old row t (0, 0) hg) (by simp [World.setRow]) (fun b hb => setRow_other w g b _ hb) (below_setRow (Below.refl _ _) (Nat.le_refl _) _))
theorem heap2 (w : World) (a b : Obj) : ((w.alloc a).alloc b).drew.heap[w.heap.size + 1]? = some b := by
  have := heap_alloc_new (w.alloc a) b
  rwa [World.size_alloc] at this
theorem heap3a (w : World) (a b c : Obj) : (((w.alloc a).alloc b).alloc c).heap[w.heap.size + 1]? = some b := by
  have h1 : ((w.alloc a).alloc b).heap[w.heap.size + 1]? = some b := by
    have := heap_alloc_new (w.alloc a) b
    rwa [World.size_alloc] at this
  exact (((Below.refl ((w.alloc a).alloc b).heap.size ((w.alloc a).alloc b)).alloc (Nat.le_refl _) c).block _ (by simp)).trans h1
theorem heap3b (w : World) (a b c : Obj) : (((w.alloc a).alloc b).alloc c).heap[w.heap.size + 1 + 1]? = some c := by
  have := heap_alloc_new ((w.alloc a).alloc b) c
  rwa [World.size_alloc, World.size_alloc] at this
/-- A key's places. -/
def placesN (l : List Nat) (seed m k : Nat) : List Nat := (placesS l seed m k).map Int.toNat
theorem placesN_nats (l : List Nat) (seed m k : Nat) : nats (placesN l seed m k) = placesS l seed m k := by
  unfold nats placesN
  rw [List.map_map]
  refine (List.map_congr_left fun p hp => ?_).trans (List.map_id _)
  unfold placesS at hp
  obtain ⟨i, _, rfl⟩ := List.mem_map.1 hp
  have := placeS_nonneg (hashS l ((seed + i) % 18446744073709551616)) (m : Int)
  show ((placeAt l seed m i).toNat : Int) = placeAt l seed m i
  unfold placeAt
  omega
theorem placesN_lt (l : List Nat) (seed m k : Nat) (hm : 1 ≤ m) : ∀ p ∈ placesN l seed m k, p < m := by
  intro p hp
  unfold placesN at hp
  obtain ⟨z, hz, rfl⟩ := List.mem_map.1 hp
  unfold placesS at hz
  obtain ⟨i, _, rfl⟩ := List.mem_map.1 hz
  have h1 := placeS_nonneg (hashS l ((seed + i) % 18446744073709551616)) (m : Int)
  have h2 := placeS_lt (hashS l ((seed + i) % 18446744073709551616)) (m : Int) (by omega)
  unfold placeAt
  omega
theorem placesN_length (l : List Nat) (seed m k : Nat) : (placesN l seed m k).length = k := by simp [placesN, placesS_length]
/-- What touches a key's bits. -/
def TouchAt (w : World) (v : Value) (ps : List Nat) : Prop :=
  ∃ gp pa k pc, v = .func (.func 31) #[] #[.pointer (some ⟨gp, 0, none⟩)] ∧ gp < w.heap.size ∧ w.cell? ⟨gp, 0, none⟩ = some (.slice pa k pc) ∧ IntsAt w pa k (nats ps)
theorem TouchAt.mono {w w' : World} {v : Value} {ps : List Nat} (h : TouchAt w v ps) (hb : Below w.heap.size w w') : TouchAt w' v ps := by
  obtain ⟨gp, pa, k, pc, hv, hg, hc, hi⟩ := h
  exact ⟨gp, pa, k, pc, hv, Nat.lt_of_lt_of_le hg hb.size, (hb.cell (p := ⟨gp, 0, none⟩) hg).trans hc, hi.mono hb⟩
/-- A store, as it lies in memory. -/
structure BlurAt (w : World) (m k seed : Nat) (v : Value) (l0 l1 l2 : List Nat) : Prop where
  m1 : 1 ≤ m
  m2 : m ≤ 4194304
  k1 : 1 ≤ k
  k2 : k ≤ 16
  sd : seed < 18446744073709551616
  val : ∃ a0 a1 a2 c0 c1 c2, v = .agg #[.int .i64 (m : Nat), .int .i64 (k : Nat), .int .u64 (seed : Nat), .slice a0 ((m + 7) / 8) c0, .slice a1 ((m + 7) / 8) c1, .slice a2 ((m + 7) / 8) c2] ∧ BytesAt w a0 ((m + 7) / 8) c0 l0 ∧ BytesAt w a1 ((m + 7) / 8) c1 l1 ∧ BytesAt w a2 ((m + 7) / 8) c2 l2
theorem BlurAt.mono {w w' : World} {m k seed : Nat} {v : Value} {l0 l1 l2 : List Nat} (h : BlurAt w m k seed v l0 l1 l2) (hb : Below w.heap.size w w') : BlurAt w' m k seed v l0 l1 l2 := by
  obtain ⟨a0, a1, a2, c0, c1, c2, hv, h0, h1, h2⟩ := h.val
  exact ⟨h.m1, h.m2, h.k1, h.k2, h.sd, a0, a1, a2, c0, c1, c2, hv, h0.mono hb, h1.mono hb, h2.mono hb⟩
set_option maxRecDepth 100000 in
set_option maxHeartbeats 1000000 in
theorem touching_any (w : World) (m k seed : Nat) (v : Value) (l0 l1 l2 : List Nat) (ka : Option Addr) (kl kc : Nat) (key : List Nat) (hb : BlurAt w m k seed v l0 l1 l2) (hk : BytesAt w ka kl kc key) :
    Calls Try.prog 22 #[v, .slice ka kl kc] w fun e w' => (∃ v', e = .returned v' ∧ TouchAt w' v' (placesN key seed m k)) ∧ Below w.heap.size w w' := by
  obtain ⟨a0, a1, a2, c0, c1, c2, rfl, h0, h1, h2⟩ := hb.val
  have k2 := hb.k2
  have m2 := hb.m2
  have sd := hb.sd
  go_enter Try.func22, Try.ntmps22
  go_wp2_with fail
  refine (mixPlaces_any _ ka kl kc key seed sd k (by omega) (m : Int) (by omega) (by omega) (hk.mono ((Below.refl _ _).alloc (Nat.le_refl _) _))).mono ?_
  rintro e w1 ⟨pa, pc, rfl, hpc, hpc2, hi, hb1⟩
  have hb2 := ((Below.refl w.heap.size w).alloc (Nat.le_refl _) _).trans (hb1.mono (by simp))
  go_wp2_with fail
  go_ret
  refine ⟨⟨_, rfl, _, pa, k, pc, rfl, ?_, ?_, ?_⟩, hb2.alloc hb2.size _⟩
  · simp
  · simp
  · rw [placesN_nats]
    exact hi.mono ((Below.refl _ _).alloc (Nat.le_refl _) _)
end Go.Proofs.Ytcnpomejdnpegaa
