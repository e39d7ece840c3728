/- blur.Member, Ones. -/
import Derived.Test.YtcnpomejdnpegaaBlur4
import Derived.Deep.RegionHeld3
import Derived.Deep.RegionLaw
namespace Go.Proofs.Ytcnpomejdnpegaa
open Go.RowKit
set_option linter.unusedVariables false

/-- A whole record stored, in a region that draws its order. -/
theorem step_store_rec {P : Program} {ops : Array Oper} {o : Oper} {a : Act} {w : World} {K : Act → World → Prop} {Q : Exit → Act → World → Prop} {E : Prop} (hgd : o.guard = none) (ty : TypeId) (x y : Operand) (ho : o.op = .store ty x y)
    (g : Nat) (row : Array Value) (hx : a.eval x = .pointer (some ⟨g, 0, none⟩)) (hy : a.eval y = .agg row)
    (t : TypeId) (old : Array Value) (hg : w.heap[g]? = some (.cells old t (0, 0))) (hi : (P.info? ty).map (·.size) = some row.size)
    (hold : old.size = row.size) (h1 : row.all (·.oneCell') = true)
    (h : ∀ w1, w1.heap[g]? = some (.cells row t (0, 0)) → w1.heap.size = w.heap.size → (∀ b, b ≠ g → w1.heap[b]? = w.heap[b]?) → Below g w w1 → K (a.put o.dst undef) w1) :
    if Region.wanted o (yielded ops a.tmps) = true then Oper.wp P o a w K Q else E := by
  have hw : Region.wanted o (yielded ops a.tmps) = true := by simp [Region.wanted, hgd]
  rw [if_pos hw]
  exact wp_store_row ty x y ho g row hx hy t old hg hi hold h1 (h _ (setRow_heap w g old row t (0, 0) hg) (by simp [World.setRow]) (fun b hb => setRow_other w g b _ hb) (below_setRow (Below.refl _ _) (Nat.le_refl _) _))
/-- Six cells stored, one by one. -/
def six (w : World) (g : Nat) (x0 x1 x2 x3 x4 x5 : Value) : World := (((((w.setCell ⟨g, 0, none⟩ x0).setCell ⟨g, 1, none⟩ x1).setCell ⟨g, 2, none⟩ x2).setCell ⟨g, 3, none⟩ x3).setCell ⟨g, 4, none⟩ x4).setCell ⟨g, 5, none⟩ x5
theorem six_other (w : World) (g : Nat) (x0 x1 x2 x3 x4 x5 : Value) (b : Nat) (h : b ≠ g) : (six w g x0 x1 x2 x3 x4 x5).heap[b]? = w.heap[b]? := by
  unfold six
  rw [Below.heap_setCell _ _ _ _ h, Below.heap_setCell _ _ _ _ h, Below.heap_setCell _ _ _ _ h, Below.heap_setCell _ _ _ _ h, Below.heap_setCell _ _ _ _ h, Below.heap_setCell _ _ _ _ h]
theorem six_size (w : World) (g : Nat) (x0 x1 x2 x3 x4 x5 : Value) : (six w g x0 x1 x2 x3 x4 x5).heap.size = w.heap.size := by simp [six, World.setCell]
theorem six_below {B : Nat} {w0 w : World} (h : Below B w0 w) {g : Nat} (hg : B ≤ g) (x0 x1 x2 x3 x4 x5 : Value) : Below B w0 (six w g x0 x1 x2 x3 x4 x5) :=
  (((((h.setCell hg _).setCell hg _).setCell hg _).setCell hg _).setCell hg _).setCell hg _
theorem six_row (w : World) (g : Nat) (x0 x1 x2 x3 x4 x5 y0 y1 y2 y3 y4 y5 : Value) (t : TypeId) (h : w.heap[g]? = some (.cells #[y0, y1, y2, y3, y4, y5] t (0, 0))) : (six w g x0 x1 x2 x3 x4 x5).heap[g]? = some (.cells #[x0, x1, x2, x3, x4, x5] t (0, 0)) := by
  have h0 := Joins.block_setCell (i := 0) h x0
  have h1 := Joins.block_setCell (i := 1) h0 x1
  have h2 := Joins.block_setCell (i := 2) h1 x2
  have h3 := Joins.block_setCell (i := 3) h2 x3
  have h4 := Joins.block_setCell (i := 4) h3 x4
  exact Joins.block_setCell (i := 5) h4 x5
theorem six_cell (w : World) (g : Nat) (x0 x1 x2 x3 x4 x5 : Value) (b j : Nat) (h : b ≠ g) : (six w g x0 x1 x2 x3 x4 x5).cell? ⟨b, j, none⟩ = w.cell? ⟨b, j, none⟩ := World.cell?_of_block (six_other w g x0 x1 x2 x3 x4 x5 b h)
theorem six_cellU (w : World) (g : Nat) (x0 x1 x2 x3 x4 x5 : Value) (b j : Nat) (h : b ≠ g) {v : Value} (hv : w.cell? ⟨b, j, none⟩ = some v) : ((((((w.setCell ⟨g, 0, none⟩ x0).setCell ⟨g, 1, none⟩ x1).setCell ⟨g, 2, none⟩ x2).setCell ⟨g, 3, none⟩ x3).setCell ⟨g, 4, none⟩ x4).setCell ⟨g, 5, none⟩ x5).cell? ⟨b, j, none⟩ = some v := (six_cell w g x0 x1 x2 x3 x4 x5 b j h).trans hv
theorem six_belowU {B : Nat} {w0 w : World} (h : Below B w0 w) {g : Nat} (hg : B ≤ g) (x0 x1 x2 x3 x4 x5 : Value) : Below B w0 ((((((w.setCell ⟨g, 0, none⟩ x0).setCell ⟨g, 1, none⟩ x1).setCell ⟨g, 2, none⟩ x2).setCell ⟨g, 3, none⟩ x3).setCell ⟨g, 4, none⟩ x4).setCell ⟨g, 5, none⟩ x5) := six_below h hg x0 x1 x2 x3 x4 x5
theorem below_then {w a b : World} (h : Below w.heap.size w a) (h' : Below a.heap.size a b) : Below w.heap.size w b := h.trans (h'.mono h.size)
theorem touching_at (w : World) (m k seed : Nat) (v : Value) (l0 l1 l2 : List Nat) (ka : Option Addr) (kl kc : Nat) (key : List Nat) (hb : BlurAt w m k seed v l0 l1 l2) (hk : BytesAt w ka kl kc key) :
    Calls Try.prog 22 #[v, .slice ka kl kc] w fun e w' => ∃ gp pa pk pc, e = .returned (.func (.func 31) #[] #[.pointer (some ⟨gp, 0, none⟩)]) ∧ gp < w'.heap.size ∧ w'.cell? ⟨gp, 0, none⟩ = some (.slice pa pk pc) ∧ IntsAt w' pa pk (nats (placesN key seed m k)) ∧ Below w.heap.size w w' :=
  (touching_any w m k seed v l0 l1 l2 ka kl kc key hb hk).mono fun e w' ⟨⟨v', he, gp, pa, pk, pc, hv, hg, hc, hi⟩, hbel⟩ => ⟨gp, pa, pk, pc, by rw [he, hv], hg, hc, hi, hbel⟩
set_option maxRecDepth 100000 in
set_option maxHeartbeats 4000000 in
theorem member_any (w : World) (m k seed : Nat) (v : Value) (l0 l1 l2 : List Nat) (ka : Option Addr) (kl kc : Nat) (key : List Nat) (hb : BlurAt w m k seed v l0 l1 l2) (hk : BytesAt w ka kl kc key) :
    Calls Try.prog 17 #[v, .slice ka kl kc] w fun e w' => e = .returned (.bool (allV l0 (placesN key seed m k))) ∧ Below w.heap.size w w' := by
  have hb0 := hb
  have m1 := hb.m1
  have m2 := hb.m2
  have hpl := placesN_lt key seed m k hb.m1
  obtain ⟨a0, a1, a2, c0, c1, c2, rfl, h0, h1, h2⟩ := hb.val
  obtain ⟨L, hL⟩ : ∃ L, (m + 7) / 8 = L := ⟨_, rfl⟩
  rw [hL] at h0 h1 h2 hb0 ⊢
  have hlen : L ≤ 1000000 := by omega
  have hlt : ∀ p ∈ placesN key seed m k, p < 8 * L := fun p hp => by have := hpl p hp; omega
  have bA : ∀ o : Obj, Below w.heap.size w (w.alloc o).drew := fun o => ((Below.refl _ _).alloc (Nat.le_refl _) _).drew
  obtain ⟨ps, hps⟩ : ∃ ps, placesN key seed m k = ps := ⟨_, rfl⟩
  have hT := fun (w' : World) (h : Below w.heap.size w w') => touching_at w' m k seed _ l0 l1 l2 ka kl kc key (hb0.mono h) (hk.mono h)
  rw [hps] at hlt hT ⊢
  clear hL hps hpl hb0 hb
  go_enter Try.func17, Try.ntmps17
  go_wp2_with fail
  go_region_held3 (fun w' => w'.cell? ⟨w.heap.size, 0, none⟩ = some (.int .i64 (m : Nat)) ∧ w'.cell? ⟨w.heap.size, 1, none⟩ = some (.int .i64 (k : Nat)) ∧ w'.cell? ⟨w.heap.size, 2, none⟩ = some (.int .u64 (seed : Nat)) ∧ w'.cell? ⟨w.heap.size, 3, none⟩ = some (.slice a0 L c0) ∧ w'.cell? ⟨w.heap.size, 4, none⟩ = some (.slice a1 L c1) ∧ w'.cell? ⟨w.heap.size, 5, none⟩ = some (.slice a2 L c2) ∧ Below w.heap.size w w' ∧ w.heap.size < w'.heap.size)
    (first | exact ⟨by simp, by simp, by simp, by simp, by simp, by simp, bA _, by simp⟩ | exact ⟨by assumption, by assumption, by assumption, by assumption, by assumption, by assumption, by assumption, by assumption⟩)
    (first | (go_at_call 22; refine (hT _ (bA _)).mono ?_; rintro e wt ⟨gp, pa, pk, pc, rfl, hgp, hcp, hip, bt⟩; have t0 : wt.cell? ⟨w.heap.size, 0, none⟩ = some (.int .i64 (m : Nat)) := (bt.cell (p := ⟨w.heap.size, 0, none⟩) (by simp)).trans (by simp); have t1 : wt.cell? ⟨w.heap.size, 1, none⟩ = some (.int .i64 (k : Nat)) := (bt.cell (p := ⟨w.heap.size, 1, none⟩) (by simp)).trans (by simp); have t2 : wt.cell? ⟨w.heap.size, 2, none⟩ = some (.int .u64 (seed : Nat)) := (bt.cell (p := ⟨w.heap.size, 2, none⟩) (by simp)).trans (by simp); have t3 : wt.cell? ⟨w.heap.size, 3, none⟩ = some (.slice a0 L c0) := (bt.cell (p := ⟨w.heap.size, 3, none⟩) (by simp)).trans (by simp); have t4 : wt.cell? ⟨w.heap.size, 4, none⟩ = some (.slice a1 L c1) := (bt.cell (p := ⟨w.heap.size, 4, none⟩) (by simp)).trans (by simp); have t5 : wt.cell? ⟨w.heap.size, 5, none⟩ = some (.slice a2 L c2) := (bt.cell (p := ⟨w.heap.size, 5, none⟩) (by simp)).trans (by simp); have t6 := below_then (bA _) bt; have t7 : w.heap.size < wt.heap.size := Nat.lt_of_lt_of_le (by simp) bt.size; have h0t := h0.mono t6) | (go_at_call 31; refine (touchF _ gp pa pk pc ps a0 L c0 l0 hcp hip h0t hlt hlen).mono ?_; rintro e wa ⟨rfl, rfl⟩))
  go_wp2
  go_ret
  exact ⟨rfl, by assumption⟩
end Go.Proofs.Ytcnpomejdnpegaa
