/- blur.Get, New. -/
import Derived.Test.YtcnpomejdnpegaaBlur8
import Derived.Laws.OwnMore
namespace Go.Proofs.Ytcnpomejdnpegaa
open Go.RowKit
set_option linter.unusedVariables false

set_option maxRecDepth 100000 in
set_option maxHeartbeats 2000000 in
theorem get_bad (w : World) (m k seed : Nat) (v : Value) (l0 l1 l2 : List Nat) (ky : Value) (hb : BlurAt w m k seed v l0 l1 l2) (fl : Int) (hf : fl < 0 ∨ 2 ≤ fl) :
    Calls Try.prog 15 #[v, ky, .int .i64 fl] w fun e w' => e = .returned (.tuple #[.bool false, .int .i64 1]) ∧ Below w.heap.size w w' := by
  obtain ⟨a0, a1, a2, c0, c1, c2, rfl, h0, h1, h2⟩ := hb.val
  have bA : ∀ o : Obj, Below w.heap.size w (w.alloc o) := fun o => (Below.refl _ _).alloc (Nat.le_refl _) _
  have hF := fun (w' : World) (h : Below w.heap.size w w') => flagged_bad w' _ m k seed l0 l1 l2 (hb.mono h) ky fl hf
  clear hb h0 h1 h2
  go_enter Try.func15, Try.ntmps15
  go_wp2_with fail
  refine (hF _ (bA _)).mono ?_
  rintro e w1 ⟨rfl, b1⟩
  go_wp2_with fail
  go_ret2
  exact ⟨rfl, below_then (bA _) b1⟩
set_option maxRecDepth 100000 in
set_option maxHeartbeats 2000000 in
theorem get_none (w : World) (m k seed : Nat) (v : Value) (l0 l1 l2 : List Nat) (ka : Option Addr) (kl kc : Nat) (key : List Nat) (hb : BlurAt w m k seed v l0 l1 l2) (hk : BytesAt w ka kl kc key) (fl : Nat) (hf : fl < 2) (hall : allV l0 (placesN key seed m k) = false) :
    Calls Try.prog 15 #[v, .slice ka kl kc, .int .i64 (fl : Nat)] w fun e w' => e = .returned (.tuple #[.bool false, .int .i64 10]) ∧ Below w.heap.size w w' := by
  obtain ⟨a0, a1, a2, c0, c1, c2, rfl, h0, h1, h2⟩ := hb.val
  have bA : ∀ o : Obj, Below w.heap.size w (w.alloc o) := fun o => (Below.refl _ _).alloc (Nat.le_refl _) _
  have hF := fun (w' : World) (h : Below w.heap.size w w') => flagged_none w' m k seed _ l0 l1 l2 ka kl kc key (hb.mono h) (hk.mono h) fl hf hall
  clear hb h0 h1 h2
  go_enter Try.func15, Try.ntmps15
  go_wp2_with fail
  refine (hF _ (bA _)).mono ?_
  rintro e w1 ⟨rfl, b1⟩
  go_wp2_with fail
  go_ret2
  exact ⟨rfl, below_then (bA _) b1⟩
set_option maxRecDepth 100000 in
set_option maxHeartbeats 2000000 in
theorem get0_ok (w : World) (m k seed : Nat) (v : Value) (l0 l1 l2 : List Nat) (ka : Option Addr) (kl kc : Nat) (key : List Nat) (hb : BlurAt w m k seed v l0 l1 l2) (hk : BytesAt w ka kl kc key) (hall : allV l0 (placesN key seed m k) = true) :
    Calls Try.prog 15 #[v, .slice ka kl kc, .int .i64 0] w fun e w' => e = .returned (.tuple #[.bool (allV l1 (placesN key seed m k)), .int .i64 0]) ∧ Below w.heap.size w w' := by
  have m1 := hb.m1
  have m2 := hb.m2
  have hpl := placesN_lt key seed m k hb.m1
  obtain ⟨a0, a1, a2, c0, c1, c2, rfl, h0, h1, h2⟩ := hb.val
  have bA : ∀ o : Obj, Below w.heap.size w (w.alloc o) := fun o => (Below.refl _ _).alloc (Nat.le_refl _) _
  have hF := fun (w' : World) (h : Below w.heap.size w w') => flagged_ok w' m k seed _ l0 l1 l2 ka kl kc key (hb.mono h) (hk.mono h) 0 (by omega) hall
  obtain ⟨L, hL⟩ : ∃ L, (m + 7) / 8 = L := ⟨_, rfl⟩
  rw [hL] at h0 h1 h2 hF ⊢
  have hlen : L ≤ 1000000 := by omega
  have hlt : ∀ p ∈ placesN key seed m k, p < 8 * L := fun p hp => by have := hpl p hp; omega
  obtain ⟨ps, hps⟩ : ∃ ps, placesN key seed m k = ps := ⟨_, rfl⟩
  rw [hps] at hlt hF ⊢
  clear hb hL hps hall hpl
  go_enter Try.func15, Try.ntmps15
  go_wp2_with fail
  refine (hF _ (bA _)).mono ?_
  rintro e w1 ⟨gp, pa, pk, pc, rfl, hgp, hcp, hip, b1⟩
  have t6 := below_then (bA _) b1
  have x1 : w1.cell? ⟨w.heap.size, 4, none⟩ = some (.slice a1 L c1) := (b1.cell (p := ⟨w.heap.size, 4, none⟩) (by simp)).trans (by simp)
  have hx := h1.mono t6
  clear b1 hF h0 h1 h2
  go_wp2_with fail
  refine (touchF _ gp pa pk pc ps a1 L c1 l1 hcp hip hx hlt hlen).mono ?_
  rintro e wa ⟨rfl, rfl⟩
  go_wp2_with fail
  go_ret2
  exact ⟨rfl, t6⟩
set_option maxRecDepth 100000 in
set_option maxHeartbeats 2000000 in
theorem get1_ok (w : World) (m k seed : Nat) (v : Value) (l0 l1 l2 : List Nat) (ka : Option Addr) (kl kc : Nat) (key : List Nat) (hb : BlurAt w m k seed v l0 l1 l2) (hk : BytesAt w ka kl kc key) (hall : allV l0 (placesN key seed m k) = true) :
    Calls Try.prog 15 #[v, .slice ka kl kc, .int .i64 1] w fun e w' => e = .returned (.tuple #[.bool (allV l2 (placesN key seed m k)), .int .i64 0]) ∧ Below w.heap.size w w' := by
  have m1 := hb.m1
  have m2 := hb.m2
  have hpl := placesN_lt key seed m k hb.m1
  obtain ⟨a0, a1, a2, c0, c1, c2, rfl, h0, h1, h2⟩ := hb.val
  have bA : ∀ o : Obj, Below w.heap.size w (w.alloc o) := fun o => (Below.refl _ _).alloc (Nat.le_refl _) _
  have hF := fun (w' : World) (h : Below w.heap.size w w') => flagged_ok w' m k seed _ l0 l1 l2 ka kl kc key (hb.mono h) (hk.mono h) 1 (by omega) hall
  obtain ⟨L, hL⟩ : ∃ L, (m + 7) / 8 = L := ⟨_, rfl⟩
  rw [hL] at h0 h1 h2 hF ⊢
  have hlen : L ≤ 1000000 := by omega
  have hlt : ∀ p ∈ placesN key seed m k, p < 8 * L := fun p hp => by have := hpl p hp; omega
  obtain ⟨ps, hps⟩ : ∃ ps, placesN key seed m k = ps := ⟨_, rfl⟩
  rw [hps] at hlt hF ⊢
  clear hb hL hps hall hpl
  go_enter Try.func15, Try.ntmps15
  go_wp2_with fail
  refine (hF _ (bA _)).mono ?_
  rintro e w1 ⟨gp, pa, pk, pc, rfl, hgp, hcp, hip, b1⟩
  have t6 := below_then (bA _) b1
  have x2 : w1.cell? ⟨w.heap.size, 5, none⟩ = some (.slice a2 L c2) := (b1.cell (p := ⟨w.heap.size, 5, none⟩) (by simp)).trans (by simp)
  have hx := h2.mono t6
  clear b1 hF h0 h1 h2
  go_wp2_with fail
  refine (touchF _ gp pa pk pc ps a2 L c2 l2 hcp hip hx hlt hlen).mono ?_
  rintro e wa ⟨rfl, rfl⟩
  go_wp2_with fail
  go_ret2
  exact ⟨rfl, t6⟩
set_option maxRecDepth 100000 in
set_option maxHeartbeats 2000000 in
theorem new_bad (w : World) (m k : Int) (seed : Nat) (h : ¬ (1 ≤ m ∧ m ≤ 4194304 ∧ 1 ≤ k ∧ k ≤ 16)) :
    Calls Try.prog 9 #[.int .i64 m, .int .i64 k, .int .u64 (seed : Nat)] w fun e w' => e = .returned (.tuple #[.agg #[.int .i64 0, .int .i64 0, .int .u64 0, .slice none 0 0, .slice none 0 0, .slice none 0 0], .int .i64 1]) ∧ Below w.heap.size w w' := by
  by_cases e1 : m < 1
  · have d1 : decide (m < 1) = true := by simpa using e1
    go_enter Try.func9, Try.ntmps9
    go_wp2_with fail
    exact bodyPost_ret (v := .tuple #[.agg #[.int .i64 0, .int .i64 0, .int .u64 0, .slice none 0 0, .slice none 0 0, .slice none 0 0], .int .i64 1]) (by simp [results, Try.results9, go_sem]) rfl ⟨rfl, (Below.refl _ _).alloc (Nat.le_refl _) _⟩
  have d1 : decide (m < 1) = false := by simpa using e1
  by_cases e2 : 4194304 < m
  · have d2 : decide (4194304 < m) = true := by simpa using e2
    go_enter Try.func9, Try.ntmps9
    go_wp2_with fail
    exact bodyPost_ret (v := .tuple #[.agg #[.int .i64 0, .int .i64 0, .int .u64 0, .slice none 0 0, .slice none 0 0, .slice none 0 0], .int .i64 1]) (by simp [results, Try.results9, go_sem]) rfl ⟨rfl, (Below.refl _ _).alloc (Nat.le_refl _) _⟩
  have d2 : decide (4194304 < m) = false := by simpa using e2
  by_cases e3 : k < 1
  · have d3 : decide (k < 1) = true := by simpa using e3
    go_enter Try.func9, Try.ntmps9
    go_wp2_with fail
    exact bodyPost_ret (v := .tuple #[.agg #[.int .i64 0, .int .i64 0, .int .u64 0, .slice none 0 0, .slice none 0 0, .slice none 0 0], .int .i64 1]) (by simp [results, Try.results9, go_sem]) rfl ⟨rfl, (Below.refl _ _).alloc (Nat.le_refl _) _⟩
  have d3 : decide (k < 1) = false := by simpa using e3
  have d4 : decide (16 < k) = true := by simp; omega
  go_enter Try.func9, Try.ntmps9
  go_wp2_with fail
  exact bodyPost_ret (v := .tuple #[.agg #[.int .i64 0, .int .i64 0, .int .u64 0, .slice none 0 0, .slice none 0 0, .slice none 0 0], .int .i64 1]) (by simp [results, Try.results9, go_sem]) rfl ⟨rfl, (Below.refl _ _).alloc (Nat.le_refl _) _⟩
theorem new_facts (w : World) (B o L : Nat) (s : Value) (hB : B < w.heap.size) :
    (∀ b, b < w.heap.size → b ≠ B → ((w.setCell ⟨B, o, none⟩ s).alloc (.cells (madeCells #[.int .u8 0] L) 5)).heap[b]? = w.heap[b]?) ∧
    (∀ cs t, w.heap[B]? = some (.cells cs t (0, 0)) → ((w.setCell ⟨B, o, none⟩ s).alloc (.cells (madeCells #[.int .u8 0] L) 5)).heap[B]? = some (.cells (cs.setIfInBounds o s) t (0, 0))) ∧
    LaidB ((w.setCell ⟨B, o, none⟩ s).alloc (.cells (madeCells #[.int .u8 0] L) 5)) w.heap.size L (List.replicate L 0) ∧ ((w.setCell ⟨B, o, none⟩ s).alloc (.cells (madeCells #[.int .u8 0] L) 5)).heap.size = w.heap.size + 1 := by
  have hz : (w.setCell ⟨B, o, none⟩ s).heap.size = w.heap.size := World.size_setCell _ _ _
  have hb := (Below.refl (w.setCell ⟨B, o, none⟩ s).heap.size (w.setCell ⟨B, o, none⟩ s)).alloc (Nat.le_refl _) (.cells (madeCells #[.int .u8 0] L) 5)
  refine ⟨fun b hlt hne => ?_, fun cs t h => ?_, ?_, by simp⟩
  · exact (hb.block b (by rw [hz]; exact hlt)).trans (Below.heap_setCell _ _ _ _ hne)
  · exact (hb.block B (by rw [hz]; exact hB)).trans (Joins.block_setCell h s)
  · refine ⟨fun x hx => by rw [List.eq_of_mem_replicate hx]; decide, by simp, madeCells #[.int .u8 0] L, ?_, fun i hi => ?_⟩
    · have := heap_alloc_new (w.setCell ⟨B, o, none⟩ s) (.cells (madeCells #[.int .u8 0] L) 5)
      rwa [hz] at this
    · have e := toList_madeCells_one (.int .u8 0) L
      rw [← Array.getElem?_toList, e, List.getElem?_replicate, if_pos hi]
      simp [List.getD, hi]
/-- The first rows of a new store. -/
def NewRow (w : World) (L i j : Nat) (v : Value) : Prop := if j < i then ∃ g, v = .slice (some ⟨g, 0, none⟩) L L ∧ LaidB w g L (List.replicate L 0) else v = .slice none 0 0
theorem NewRow.mono {w w' : World} {L i j : Nat} {v : Value} (h : NewRow w L i j v) (hg : ∀ g l, LaidB w g L l → w'.heap[g]? = w.heap[g]?) : NewRow w' L i j v := by
  unfold NewRow at h ⊢
  split
  · rename_i hj
    rw [if_pos hj] at h
    obtain ⟨g, hv, hl⟩ := h
    exact ⟨g, hv, hl.other (hg g _ hl)⟩
  · rename_i hj
    rwa [if_neg hj] at h
/-- No row of bytes lies where a record does. -/
theorem laid_no {w : World} {g L : Nat} {l : List Nat} (h : LaidB w g L l) (hL : 1 ≤ L) {row : Array Value} {t : TypeId} (hg : w.heap[g]? = some (.cells row t (0, 0))) (hno : ∀ n : Int, row[0]? ≠ some (.int .u8 n)) : False := by
  have := h.cell (i := 0) (by omega)
  rw [cell_of_row _ _ _ _ _ _ hg] at this
  exact hno _ this
set_option maxRecDepth 100000 in
set_option maxHeartbeats 4000000 in
theorem new_ok (w : World) (m k seed : Nat) (m1 : 1 ≤ m) (m2 : m ≤ 4194304) (k1 : 1 ≤ k) (k2 : k ≤ 16) (sd : seed < 18446744073709551616) :
    Calls Try.prog 9 #[.int .i64 (m : Nat), .int .i64 (k : Nat), .int .u64 (seed : Nat)] w fun e w' => (∃ v', e = .returned (.tuple #[v', .int .i64 0]) ∧ BlurAt w' m k seed v' (List.replicate ((m + 7) / 8) 0) (List.replicate ((m + 7) / 8) 0) (List.replicate ((m + 7) / 8) 0)) ∧ Below w.heap.size w w' := by
  obtain ⟨L, hL⟩ : ∃ L, (m + 7) / 8 = L := ⟨_, rfl⟩
  have hLi : ((m : Int) + 7) / 8 = (L : Int) := by omega
  have L1 : 1 ≤ L := by omega
  have L2 : L ≤ 1000000 := by omega
  have HL := Lib.hid hL
  rw [hL]
  clear hL
  have d1 : decide ((m : Int) < 1) = false := by simp; omega
  have d2 : decide ((4194304 : Int) < (m : Int)) = false := by simp; omega
  have d3 : decide ((k : Int) < 1) = false := by simp; omega
  have d4 : decide ((16 : Int) < (k : Int)) = false := by simp; omega
  have hmk := run_make_row' (P := Try.prog) 28 5 (.int .u8 0) 1 Try.underlying28 Try.info_u8 rfl .i64 .i64 L (by omega) (by omega)
  go_enter Try.func9, Try.ntmps9
  go_wp2_with fail
  go_loopw [29] (fun i w' => ∃ (j : Nat) (v0 v1 v2 : Value), j ≤ 3 ∧ i = .int .i64 (j : Nat) ∧ w'.heap[w.heap.size]? = some (.cells #[.int .i64 0, .int .i64 0, .int .u64 0, .slice none 0 0, .slice none 0 0, .slice none 0 0] 31 (0, 0)) ∧ w'.heap[w.heap.size + 1]? = some (.cells #[.int .i64 (m : Nat), .int .i64 (k : Nat), .int .u64 (seed : Nat), v0, v1, v2] 31 (0, 0)) ∧ NewRow w' L j 0 v0 ∧ NewRow w' L j 1 v1 ∧ NewRow w' L j 2 v2 ∧ Below w.heap.size w w' ∧ w.heap.size + 1 < w'.heap.size) (fun i _ => 3 - (intOf i).toNat)
  case atStart => exact ⟨0, .slice none 0 0, .slice none 0 0, .slice none 0 0, by omega, rfl, heap1a _ _ _, heap1b _ _ _, rfl, rfl, rfl, ((Below.refl _ _).alloc (Nat.le_refl _) _).alloc (by simp) _, by simp⟩
  case round =>
    obtain ⟨j, v0, v1, v2, hj, rfl, p0, p1, n0, n1, n2, bel, hz⟩ := hrel
    have hj4 : j = 0 ∨ j = 1 ∨ j = 2 ∨ j = 3 := by omega
    rcases hj4 with rfl | rfl | rfl | rfl
    · have x1 := cell_of_row wr (w.heap.size + 1) 3 _ _ _ p1
      have x2 := frozen_of_row wr (w.heap.size + 1) 3 _ _ p1
      simp at x1
      obtain ⟨f1, f2, f3, f4⟩ := new_facts wr (w.heap.size + 1) 3 L (.slice (some ⟨wr.heap.size, 0, none⟩) L L) hz
      have g0 := (f1 w.heap.size (by omega) (by omega)).trans p0
      have g1 := f2 _ _ p1
      have nm := fun (i : Nat) (v : Value) (h : NewRow wr L 0 i v) => NewRow.mono h fun g l hl => f1 g hl.lt (by rintro rfl; exact laid_no hl (by omega) p1 (by simp))
      have bel2 : Below w.heap.size w ((wr.setCell ⟨w.heap.size + 1, 3, none⟩ (.slice (some ⟨wr.heap.size, 0, none⟩) L L)).alloc (.cells (madeCells #[.int .u8 0] L) 5)) := (bel.setCell (Nat.le_succ _) _).alloc (by have := bel.size; rw [World.size_setCell]; exact this) _
      go_wp2_with fail
      exact ⟨⟨1, (.slice (some ⟨wr.heap.size, 0, none⟩) L L), v1, v2, by omega, rfl, g0, g1, (by unfold NewRow; rw [if_pos (by decide)]; exact ⟨_, rfl, f3⟩), (by have := nm 1 _ n1; unfold NewRow at this ⊢; rw [if_neg (by decide)] at this ⊢; exact this), (by have := nm 2 _ n2; unfold NewRow at this ⊢; rw [if_neg (by decide)] at this ⊢; exact this), bel2, by rw [f4]; omega⟩, by simp [intOf]⟩
    · have x1 := cell_of_row wr (w.heap.size + 1) 4 _ _ _ p1
      have x2 := frozen_of_row wr (w.heap.size + 1) 4 _ _ p1
      simp at x1
      obtain ⟨f1, f2, f3, f4⟩ := new_facts wr (w.heap.size + 1) 4 L (.slice (some ⟨wr.heap.size, 0, none⟩) L L) hz
      have g0 := (f1 w.heap.size (by omega) (by omega)).trans p0
      have g1 := f2 _ _ p1
      have nm := fun (i : Nat) (v : Value) (h : NewRow wr L 1 i v) => NewRow.mono h fun g l hl => f1 g hl.lt (by rintro rfl; exact laid_no hl (by omega) p1 (by simp))
      have bel2 : Below w.heap.size w ((wr.setCell ⟨w.heap.size + 1, 4, none⟩ (.slice (some ⟨wr.heap.size, 0, none⟩) L L)).alloc (.cells (madeCells #[.int .u8 0] L) 5)) := (bel.setCell (Nat.le_succ _) _).alloc (by have := bel.size; rw [World.size_setCell]; exact this) _
      go_wp2_with fail
      exact ⟨⟨2, v0, (.slice (some ⟨wr.heap.size, 0, none⟩) L L), v2, by omega, rfl, g0, g1, (by have := nm 0 _ n0; unfold NewRow at this ⊢; rw [if_pos (by decide)] at this ⊢; exact this), (by unfold NewRow; rw [if_pos (by decide)]; exact ⟨_, rfl, f3⟩), (by have := nm 2 _ n2; unfold NewRow at this ⊢; rw [if_neg (by decide)] at this ⊢; exact this), bel2, by rw [f4]; omega⟩, by simp [intOf]⟩
    · have x1 := cell_of_row wr (w.heap.size + 1) 5 _ _ _ p1
      have x2 := frozen_of_row wr (w.heap.size + 1) 5 _ _ p1
      simp at x1
      obtain ⟨f1, f2, f3, f4⟩ := new_facts wr (w.heap.size + 1) 5 L (.slice (some ⟨wr.heap.size, 0, none⟩) L L) hz
      have g0 := (f1 w.heap.size (by omega) (by omega)).trans p0
      have g1 := f2 _ _ p1
      have nm := fun (i : Nat) (v : Value) (h : NewRow wr L 2 i v) => NewRow.mono h fun g l hl => f1 g hl.lt (by rintro rfl; exact laid_no hl (by omega) p1 (by simp))
      have bel2 : Below w.heap.size w ((wr.setCell ⟨w.heap.size + 1, 5, none⟩ (.slice (some ⟨wr.heap.size, 0, none⟩) L L)).alloc (.cells (madeCells #[.int .u8 0] L) 5)) := (bel.setCell (Nat.le_succ _) _).alloc (by have := bel.size; rw [World.size_setCell]; exact this) _
      go_wp2_with fail
      exact ⟨⟨3, v0, v1, (.slice (some ⟨wr.heap.size, 0, none⟩) L L), by omega, rfl, g0, g1, (by have := nm 0 _ n0; unfold NewRow at this ⊢; rw [if_pos (by decide)] at this ⊢; exact this), (by have := nm 1 _ n1; unfold NewRow at this ⊢; rw [if_pos (by decide)] at this ⊢; exact this), (by unfold NewRow; rw [if_pos (by decide)]; exact ⟨_, rfl, f3⟩), bel2, by rw [f4]; omega⟩, by simp [intOf]⟩
    · unfold NewRow at n0 n1 n2
      rw [if_pos (by decide)] at n0 n1 n2
      obtain ⟨g0, rfl, r0⟩ := n0
      obtain ⟨g1, rfl, r1⟩ := n1
      obtain ⟨g2, rfl, r2⟩ := n2
      have hb : BlurAt wr m k seed (.agg #[.int .i64 (m : Nat), .int .i64 (k : Nat), .int .u64 (seed : Nat), .slice (some ⟨g0, 0, none⟩) L L, .slice (some ⟨g1, 0, none⟩) L L, .slice (some ⟨g2, 0, none⟩) L L]) (List.replicate L 0) (List.replicate L 0) (List.replicate L 0) :=
        ⟨m1, m2, k1, k2, sd, _, _, _, _, _, _, by rw [HL.out], by rw [HL.out]; exact r0.bytes L (by omega), by rw [HL.out]; exact r1.bytes L (by omega), by rw [HL.out]; exact r2.bytes L (by omega)⟩
      go_wp2_with (first | (refine wpList_load_row rfl 31 _ rfl (w.heap.size + 1) rfl 31 #[.int .i64 (m : Nat), .int .i64 (k : Nat), .int .u64 (seed : Nat), .slice (some ⟨g0, 0, none⟩) L L, .slice (some ⟨g1, 0, none⟩) L L, .slice (some ⟨g2, 0, none⟩) L L] (0, 0) _ p1 Try.underlying31 rfl (by kernel_rfl) ?_) | (refine store_rec rfl 31 (.tmp 6) (.tmp 40) rfl w.heap.size #[.int .i64 (m : Nat), .int .i64 (k : Nat), .int .u64 (seed : Nat), .slice (some ⟨g0, 0, none⟩) L L, .slice (some ⟨g1, 0, none⟩) L L, .slice (some ⟨g2, 0, none⟩) L L] rfl rfl 31 _ p0 (by kernel_rfl) rfl (by simp [Value.oneCell']) ?_; intro wz gy zz oz bz))
      have q0 := cell_of_row wz w.heap.size 0 _ _ _ gy
      have q1 := cell_of_row wz w.heap.size 1 _ _ _ gy
      have q2 := cell_of_row wz w.heap.size 2 _ _ _ gy
      have q3 := cell_of_row wz w.heap.size 3 _ _ _ gy
      have q4 := cell_of_row wz w.heap.size 4 _ _ _ gy
      have q5 := cell_of_row wz w.heap.size 5 _ _ _ gy
      simp at q0 q1 q2 q3 q4 q5
      exact bodyPost_ret (v := .tuple #[.agg #[.int .i64 (m : Nat), .int .i64 (k : Nat), .int .u64 (seed : Nat), .slice (some ⟨g0, 0, none⟩) L L, .slice (some ⟨g1, 0, none⟩) L L, .slice (some ⟨g2, 0, none⟩) L L], .int .i64 0]) (by simp [results, Try.results9, go_sem, q0, q1, q2, q3, q4, q5]) rfl ⟨⟨_, rfl, hb.recd p0 zero_no zz oz⟩, bel.trans (bz.mono (Nat.le_refl _))⟩
end Go.Proofs.Ytcnpomejdnpegaa
