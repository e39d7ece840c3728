/- The document's Eval, kinds 13, 14, 15 (by gen17n.py). -/
import Derived.Test.YtdeanjphcggbpaaTreesR0
namespace Go.Proofs.Ytdeanjphcggbpaa
open Go.RowKit
set_option linter.unusedVariables false
set_option linter.unusedSimpArgs false
set_option maxRecDepth 40000 in
set_option maxHeartbeats 2000000 in
theorem refev_13 (n pl : Int) (len : Nat) (sub : Nat → T) (ih : ∀ j, EvalR (sub j)) : EvalR (.node 13 n pl len sub) := by
  intro w v va vl vc V ht hV hmay hty
  obtain ⟨a, cap, rfl, ho, hn, hp, hln, hnone, hat⟩ := ht
  obtain ⟨_, _, m3, m4⟩ := id hmay
  obtain rfl : len = 0 := by rw [m3]; rfl
  have hV0 := hV.len_eq
  have HEV := Lib.hid (show evT V (.node 13 n pl 0 sub) = evOp V 13 n 0 0 from rfl)
  clear m3 m4 hmay hty ih
  have A := (Below.refl w.heap.size w).alloc (Nat.le_refl _) (.cells #[.int .i64 13, .int .i64 n, .int .i64 pl, .slice a 0 cap] 24)
  have pt : (w.alloc (.cells #[.int .i64 13, .int .i64 n, .int .i64 pl, .slice a 0 cap] 24)).heap[w.heap.size]? = some (.cells #[.int .i64 13, .int .i64 n, .int .i64 pl, .slice a 0 cap] 24 (0, 0)) := heap_alloc_new _ _
  go_enter Try.func35, Try.ntmps35
  go_upto_region 1 with fail
  obtain ⟨v1, hv⟩ : ∃ v, w.alloc (.cells #[.int .i64 13, .int .i64 n, .int .i64 pl, .slice a 0 cap] 24) = v := ⟨_, rfl⟩
  obtain ⟨gt, hg⟩ : ∃ g, w.heap.size = g := ⟨_, rfl⟩
  rw [hv] at pt A ⊢
  rw [hg] at pt ⊢
  have bt := A
  clear hv hg A
  have c0 : v1.cell? ⟨gt, 0, none⟩ = some (.int .i64 13) := cell_of_row _ _ 0 _ _ _ pt
  have c1 : v1.cell? ⟨gt, 1, none⟩ = some (.int .i64 n) := cell_of_row _ _ 1 _ _ _ pt
  have c3 : v1.cell? ⟨gt, 3, none⟩ = some (.slice a 0 cap) := cell_of_row _ _ 3 _ _ _ pt
  go_wp2_with fail
  go_ret
  exact ⟨by rw [HEV.out, ev13]; rfl, bt⟩
set_option maxRecDepth 40000 in
set_option maxHeartbeats 2000000 in
theorem refev_14 (n pl : Int) (len : Nat) (sub : Nat → T) (ih : ∀ j, EvalR (sub j)) : EvalR (.node 14 n pl len sub) := by
  intro w v va vl vc V ht hV hmay hty
  obtain ⟨a, cap, rfl, ho, hn, hp, hln, hnone, hat⟩ := ht
  obtain ⟨_, _, m3, m4⟩ := id hmay
  obtain rfl : len = 0 := by rw [m3]; rfl
  have hV0 := hV.len_eq
  have HEV := Lib.hid (show evT V (.node 14 n pl 0 sub) = evOp V 14 n 0 0 from rfl)
  clear m3 m4 hmay hty ih
  have A := (Below.refl w.heap.size w).alloc (Nat.le_refl _) (.cells #[.int .i64 14, .int .i64 n, .int .i64 pl, .slice a 0 cap] 24)
  have pt : (w.alloc (.cells #[.int .i64 14, .int .i64 n, .int .i64 pl, .slice a 0 cap] 24)).heap[w.heap.size]? = some (.cells #[.int .i64 14, .int .i64 n, .int .i64 pl, .slice a 0 cap] 24 (0, 0)) := heap_alloc_new _ _
  go_enter Try.func35, Try.ntmps35
  go_upto_region 1 with fail
  obtain ⟨v1, hv⟩ : ∃ v, w.alloc (.cells #[.int .i64 14, .int .i64 n, .int .i64 pl, .slice a 0 cap] 24) = v := ⟨_, rfl⟩
  obtain ⟨gt, hg⟩ : ∃ g, w.heap.size = g := ⟨_, rfl⟩
  rw [hv] at pt A ⊢
  rw [hg] at pt ⊢
  have bt := A
  clear hv hg A
  have c0 : v1.cell? ⟨gt, 0, none⟩ = some (.int .i64 14) := cell_of_row _ _ 0 _ _ _ pt
  have c1 : v1.cell? ⟨gt, 1, none⟩ = some (.int .i64 n) := cell_of_row _ _ 1 _ _ _ pt
  have c3 : v1.cell? ⟨gt, 3, none⟩ = some (.slice a 0 cap) := cell_of_row _ _ 3 _ _ _ pt
  go_wp2_with fail
  go_ret
  exact ⟨by rw [HEV.out, ev14]; rfl, bt⟩
set_option maxRecDepth 40000 in
set_option maxHeartbeats 2000000 in
theorem refev_15 (n pl : Int) (len : Nat) (sub : Nat → T) (ih : ∀ j, EvalR (sub j)) : EvalR (.node 15 n pl len sub) := by
  intro w v va vl vc V ht hV hmay hty
  obtain ⟨a, cap, rfl, ho, hn, hp, hln, hnone, hat⟩ := ht
  obtain ⟨_, _, m3, m4⟩ := id hmay
  obtain rfl : len = 1 := by rw [m3]; rfl
  have hV0 := hV.len_eq
  have hsub : ∀ i, i < 1 → tyT (sub i) = 2 := ty_lit (hty.resolve_left (fun h => by have := (ty_int hmay h).1; omega)) (by decide)
  obtain ⟨b, off, rfl, hlt, hi⟩ := hat.resolve_left (by decide)
  obtain ⟨o0, n0, p0, a0, l0, c_0, g00, g01, g02, g03, t0⟩ := hi 0 (by decide)
  have E0 := ih 0
  have k0 : tyT (sub 0) = 1 ∨ tyT (sub 0) = 2 := .inr (hsub 0 (by decide))
  have m0_ := m4 0 (by decide)
  clear hi hat hsub
  have HEV := Lib.hid (show evT V (.node 15 n pl 1 sub) = evOp V 15 n (evT V (sub 0)) 0 from rfl)
  clear m3 m4 hmay hty ih
  have A := (Below.refl w.heap.size w).alloc (Nat.le_refl _) (.cells #[.int .i64 15, .int .i64 n, .int .i64 pl, .slice (some ⟨b, off, none⟩) 1 cap] 24)
  have pt : (w.alloc (.cells #[.int .i64 15, .int .i64 n, .int .i64 pl, .slice (some ⟨b, off, none⟩) 1 cap] 24)).heap[w.heap.size]? = some (.cells #[.int .i64 15, .int .i64 n, .int .i64 pl, .slice (some ⟨b, off, none⟩) 1 cap] 24 (0, 0)) := heap_alloc_new _ _
  go_enter Try.func35, Try.ntmps35
  go_upto_region 1 with fail
  obtain ⟨v1, hv⟩ : ∃ v, w.alloc (.cells #[.int .i64 15, .int .i64 n, .int .i64 pl, .slice (some ⟨b, off, none⟩) 1 cap] 24) = v := ⟨_, rfl⟩
  obtain ⟨gt, hg⟩ : ∃ g, w.heap.size = g := ⟨_, rfl⟩
  rw [hv] at pt A ⊢
  rw [hg] at pt ⊢
  have bt := A
  clear hv hg A
  have c0 : v1.cell? ⟨gt, 0, none⟩ = some (.int .i64 15) := cell_of_row _ _ 0 _ _ _ pt
  have c1 : v1.cell? ⟨gt, 1, none⟩ = some (.int .i64 n) := cell_of_row _ _ 1 _ _ _ pt
  have c3 : v1.cell? ⟨gt, 3, none⟩ = some (.slice (some ⟨b, off, none⟩) 1 cap) := cell_of_row _ _ 3 _ _ _ pt
  have y00 : v1.cell? ⟨b, off, none⟩ = some (.int .i64 o0) := (bt.cell (p := ⟨b, _, none⟩) hlt).trans g00
  have y01 : v1.cell? ⟨b, off + 1, none⟩ = some (.int .i64 n0) := (bt.cell (p := ⟨b, _, none⟩) hlt).trans g01
  have y02 : v1.cell? ⟨b, off + 2, none⟩ = some (.int .i64 p0) := (bt.cell (p := ⟨b, _, none⟩) hlt).trans g02
  have y03 : v1.cell? ⟨b, off + 3, none⟩ = some (.slice a0 l0 c_0) := (bt.cell (p := ⟨b, _, none⟩) hlt).trans g03
  go_wp2_with fail
  refine (E0 _ _ va vl vc V (t0.mono bt) (hV.mono bt) m0_ k0).mono ?_
  rintro e w2 ⟨rfl, b2⟩
  replace pt := (b2.block gt (Array.getElem?_eq_some_iff.1 pt).1).trans pt
  replace bt := below_then bt b2
  clear c0 c1 c3 y00 y01 y02 y03
  obtain ⟨xa, hx0⟩ : ∃ x, evT V (sub 0) = x := ⟨_, rfl⟩
  rw [hx0] at HEV ⊢
  clear hx0
  have c0 : w2.cell? ⟨gt, 0, none⟩ = some (.int .i64 15) := cell_of_row _ _ 0 _ _ _ pt
  have c1 : w2.cell? ⟨gt, 1, none⟩ = some (.int .i64 n) := cell_of_row _ _ 1 _ _ _ pt
  have c3 : w2.cell? ⟨gt, 3, none⟩ = some (.slice (some ⟨b, off, none⟩) 1 cap) := cell_of_row _ _ 3 _ _ _ pt
  go_wp2_with fail
  refine (truthR_any _ _).mono ?_
  rintro e w9 ⟨rfl, b9⟩
  have H10 := Lib.hid (below_then bt b9)
  go_wp2_with fail
  go_ret
  exact ⟨by rw [HEV.out, ev15]; simp [b01, t01], H10.out⟩
end Go.Proofs.Ytdeanjphcggbpaa
