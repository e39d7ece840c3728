/- The document's Eval, kinds 5, 6, 7, 8 (by gen17n.py). -/
import Derived.Test.YtdeanjphcggbpaaTreesR0
namespace Go.Proofs.Ytdeanjphcggbpaa
open Go.RowKit
set_option linter.unusedVariables false
set_option linter.unusedSimpArgs false
set_option maxRecDepth 40000 in
set_option maxHeartbeats 2000000 in
theorem refev_5 (n pl : Int) (len : Nat) (sub : Nat → T) (ih : ∀ j, EvalR (sub j)) : EvalR (.node 5 n pl len sub) := by
  intro w v va vl vc V ht hV hmay hty
  obtain ⟨a, cap, rfl, ho, hn, hp, hln, hnone, hat⟩ := ht
  obtain ⟨_, _, m3, m4⟩ := id hmay
  obtain rfl : len = 2 := by rw [m3]; rfl
  have hV0 := hV.len_eq
  have hsub : ∀ i, i < 2 → tyT (sub i) = 1 := ty_cmp hmay (by omega) (by decide)
  obtain ⟨b, off, rfl, hlt, hi⟩ := hat.resolve_left (by decide)
  obtain ⟨o0, n0, p0, a0, l0, c_0, g00, g01, g02, g03, t0⟩ := hi 0 (by decide)
  have E0 := ih 0
  have k0 : tyT (sub 0) = 1 ∨ tyT (sub 0) = 2 := .inl (hsub 0 (by decide))
  have m0_ := m4 0 (by decide)
  obtain ⟨o1, n1, p1, a1, l1, c_1, g10, g11, g12, g13, t1⟩ := hi 1 (by decide)
  have E1 := ih 1
  have k1 : tyT (sub 1) = 1 ∨ tyT (sub 1) = 2 := .inl (hsub 1 (by decide))
  have m1_ := m4 1 (by decide)
  clear hi hat hsub
  have HEV := Lib.hid (show evT V (.node 5 n pl 2 sub) = evOp V 5 n (evT V (sub 0)) (evT V (sub 1)) from rfl)
  clear m3 m4 hmay hty ih
  have A := (Below.refl w.heap.size w).alloc (Nat.le_refl _) (.cells #[.int .i64 5, .int .i64 n, .int .i64 pl, .slice (some ⟨b, off, none⟩) 2 cap] 24)
  have pt : (w.alloc (.cells #[.int .i64 5, .int .i64 n, .int .i64 pl, .slice (some ⟨b, off, none⟩) 2 cap] 24)).heap[w.heap.size]? = some (.cells #[.int .i64 5, .int .i64 n, .int .i64 pl, .slice (some ⟨b, off, none⟩) 2 cap] 24 (0, 0)) := heap_alloc_new _ _
  go_enter Try.func35, Try.ntmps35
  go_upto_region 1 with fail
  obtain ⟨v1, hv⟩ : ∃ v, w.alloc (.cells #[.int .i64 5, .int .i64 n, .int .i64 pl, .slice (some ⟨b, off, none⟩) 2 cap] 24) = v := ⟨_, rfl⟩
  obtain ⟨gt, hg⟩ : ∃ g, w.heap.size = g := ⟨_, rfl⟩
  rw [hv] at pt A ⊢
  rw [hg] at pt ⊢
  have bt := A
  clear hv hg A
  have c0 : v1.cell? ⟨gt, 0, none⟩ = some (.int .i64 5) := cell_of_row _ _ 0 _ _ _ pt
  have c1 : v1.cell? ⟨gt, 1, none⟩ = some (.int .i64 n) := cell_of_row _ _ 1 _ _ _ pt
  have c3 : v1.cell? ⟨gt, 3, none⟩ = some (.slice (some ⟨b, off, none⟩) 2 cap) := cell_of_row _ _ 3 _ _ _ pt
  have y00 : v1.cell? ⟨b, off, none⟩ = some (.int .i64 o0) := (bt.cell (p := ⟨b, _, none⟩) hlt).trans g00
  have y01 : v1.cell? ⟨b, off + 1, none⟩ = some (.int .i64 n0) := (bt.cell (p := ⟨b, _, none⟩) hlt).trans g01
  have y02 : v1.cell? ⟨b, off + 2, none⟩ = some (.int .i64 p0) := (bt.cell (p := ⟨b, _, none⟩) hlt).trans g02
  have y03 : v1.cell? ⟨b, off + 3, none⟩ = some (.slice a0 l0 c_0) := (bt.cell (p := ⟨b, _, none⟩) hlt).trans g03
  go_wp2_with fail
  refine (E0 _ _ va vl vc V (t0.mono bt) (hV.mono bt) m0_ k0).mono ?_
  rintro e w2 ⟨rfl, b2⟩
  replace pt := (b2.block gt (Array.getElem?_eq_some_iff.1 pt).1).trans pt
  replace bt := below_then bt b2
  clear c0 c1 c3 y00 y01 y02 y03
  obtain ⟨xa, hx0⟩ : ∃ x, evT V (sub 0) = x := ⟨_, rfl⟩
  rw [hx0] at HEV ⊢
  clear hx0
  have c0 : w2.cell? ⟨gt, 0, none⟩ = some (.int .i64 5) := cell_of_row _ _ 0 _ _ _ pt
  have c1 : w2.cell? ⟨gt, 1, none⟩ = some (.int .i64 n) := cell_of_row _ _ 1 _ _ _ pt
  have c3 : w2.cell? ⟨gt, 3, none⟩ = some (.slice (some ⟨b, off, none⟩) 2 cap) := cell_of_row _ _ 3 _ _ _ pt
  have y10 : w2.cell? ⟨b, off + 4, none⟩ = some (.int .i64 o1) := (bt.cell (p := ⟨b, _, none⟩) hlt).trans g10
  have y11 : w2.cell? ⟨b, off + 5, none⟩ = some (.int .i64 n1) := (bt.cell (p := ⟨b, _, none⟩) hlt).trans g11
  have y12 : w2.cell? ⟨b, off + 6, none⟩ = some (.int .i64 p1) := (bt.cell (p := ⟨b, _, none⟩) hlt).trans g12
  have y13 : w2.cell? ⟨b, off + 7, none⟩ = some (.slice a1 l1 c_1) := (bt.cell (p := ⟨b, _, none⟩) hlt).trans g13
  go_wp2_with fail
  refine (E1 _ _ va vl vc V (t1.mono bt) (hV.mono bt) m1_ k1).mono ?_
  rintro e w3 ⟨rfl, b3⟩
  replace pt := (b3.block gt (Array.getElem?_eq_some_iff.1 pt).1).trans pt
  replace bt := below_then bt b3
  clear c0 c1 c3 y10 y11 y12 y13
  obtain ⟨xb, hx1⟩ : ∃ x, evT V (sub 1) = x := ⟨_, rfl⟩
  rw [hx1] at HEV ⊢
  clear hx1
  have c0 : w3.cell? ⟨gt, 0, none⟩ = some (.int .i64 5) := cell_of_row _ _ 0 _ _ _ pt
  have c1 : w3.cell? ⟨gt, 1, none⟩ = some (.int .i64 n) := cell_of_row _ _ 1 _ _ _ pt
  have c3 : w3.cell? ⟨gt, 3, none⟩ = some (.slice (some ⟨b, off, none⟩) 2 cap) := cell_of_row _ _ 3 _ _ _ pt
  go_wp2_with fail
  go_ret
  exact ⟨by rw [HEV.out, ev5]; rfl, bt⟩
set_option maxRecDepth 40000 in
set_option maxHeartbeats 2000000 in
theorem refev_6 (n pl : Int) (len : Nat) (sub : Nat → T) (ih : ∀ j, EvalR (sub j)) : EvalR (.node 6 n pl len sub) := by
  intro w v va vl vc V ht hV hmay hty
  obtain ⟨a, cap, rfl, ho, hn, hp, hln, hnone, hat⟩ := ht
  obtain ⟨_, _, m3, m4⟩ := id hmay
  obtain rfl : len = 1 := by rw [m3]; rfl
  have hV0 := hV.len_eq
  have hsub : ∀ i, i < 1 → tyT (sub i) = 1 := ty_cmp hmay (by omega) (by decide)
  obtain ⟨b, off, rfl, hlt, hi⟩ := hat.resolve_left (by decide)
  obtain ⟨o0, n0, p0, a0, l0, c_0, g00, g01, g02, g03, t0⟩ := hi 0 (by decide)
  have E0 := ih 0
  have k0 : tyT (sub 0) = 1 ∨ tyT (sub 0) = 2 := .inl (hsub 0 (by decide))
  have m0_ := m4 0 (by decide)
  clear hi hat hsub
  have HEV := Lib.hid (show evT V (.node 6 n pl 1 sub) = evOp V 6 n (evT V (sub 0)) 0 from rfl)
  clear m3 m4 hmay hty ih
  have A := (Below.refl w.heap.size w).alloc (Nat.le_refl _) (.cells #[.int .i64 6, .int .i64 n, .int .i64 pl, .slice (some ⟨b, off, none⟩) 1 cap] 24)
  have pt : (w.alloc (.cells #[.int .i64 6, .int .i64 n, .int .i64 pl, .slice (some ⟨b, off, none⟩) 1 cap] 24)).heap[w.heap.size]? = some (.cells #[.int .i64 6, .int .i64 n, .int .i64 pl, .slice (some ⟨b, off, none⟩) 1 cap] 24 (0, 0)) := heap_alloc_new _ _
  go_enter Try.func35, Try.ntmps35
  go_upto_region 1 with fail
  obtain ⟨v1, hv⟩ : ∃ v, w.alloc (.cells #[.int .i64 6, .int .i64 n, .int .i64 pl, .slice (some ⟨b, off, none⟩) 1 cap] 24) = v := ⟨_, rfl⟩
  obtain ⟨gt, hg⟩ : ∃ g, w.heap.size = g := ⟨_, rfl⟩
  rw [hv] at pt A ⊢
  rw [hg] at pt ⊢
  have bt := A
  clear hv hg A
  have c0 : v1.cell? ⟨gt, 0, none⟩ = some (.int .i64 6) := cell_of_row _ _ 0 _ _ _ pt
  have c1 : v1.cell? ⟨gt, 1, none⟩ = some (.int .i64 n) := cell_of_row _ _ 1 _ _ _ pt
  have c3 : v1.cell? ⟨gt, 3, none⟩ = some (.slice (some ⟨b, off, none⟩) 1 cap) := cell_of_row _ _ 3 _ _ _ pt
  have y00 : v1.cell? ⟨b, off, none⟩ = some (.int .i64 o0) := (bt.cell (p := ⟨b, _, none⟩) hlt).trans g00
  have y01 : v1.cell? ⟨b, off + 1, none⟩ = some (.int .i64 n0) := (bt.cell (p := ⟨b, _, none⟩) hlt).trans g01
  have y02 : v1.cell? ⟨b, off + 2, none⟩ = some (.int .i64 p0) := (bt.cell (p := ⟨b, _, none⟩) hlt).trans g02
  have y03 : v1.cell? ⟨b, off + 3, none⟩ = some (.slice a0 l0 c_0) := (bt.cell (p := ⟨b, _, none⟩) hlt).trans g03
  go_wp2_with fail
  refine (E0 _ _ va vl vc V (t0.mono bt) (hV.mono bt) m0_ k0).mono ?_
  rintro e w2 ⟨rfl, b2⟩
  replace pt := (b2.block gt (Array.getElem?_eq_some_iff.1 pt).1).trans pt
  replace bt := below_then bt b2
  clear c0 c1 c3 y00 y01 y02 y03
  obtain ⟨xa, hx0⟩ : ∃ x, evT V (sub 0) = x := ⟨_, rfl⟩
  rw [hx0] at HEV ⊢
  clear hx0
  have c0 : w2.cell? ⟨gt, 0, none⟩ = some (.int .i64 6) := cell_of_row _ _ 0 _ _ _ pt
  have c1 : w2.cell? ⟨gt, 1, none⟩ = some (.int .i64 n) := cell_of_row _ _ 1 _ _ _ pt
  have c3 : w2.cell? ⟨gt, 3, none⟩ = some (.slice (some ⟨b, off, none⟩) 1 cap) := cell_of_row _ _ 3 _ _ _ pt
  go_wp2_with fail
  go_ret
  exact ⟨by rw [HEV.out, ev6]; rfl, bt⟩
set_option maxRecDepth 40000 in
set_option maxHeartbeats 2000000 in
theorem refev_7 (n pl : Int) (len : Nat) (sub : Nat → T) (ih : ∀ j, EvalR (sub j)) : EvalR (.node 7 n pl len sub) := by
  intro w v va vl vc V ht hV hmay hty
  obtain ⟨a, cap, rfl, ho, hn, hp, hln, hnone, hat⟩ := ht
  obtain ⟨_, _, m3, m4⟩ := id hmay
  obtain rfl : len = 2 := by rw [m3]; rfl
  have hV0 := hV.len_eq
  have hsub : ∀ i, i < 2 → tyT (sub i) = 1 := ty_cmp hmay (by omega) (by decide)
  obtain ⟨b, off, rfl, hlt, hi⟩ := hat.resolve_left (by decide)
  obtain ⟨o0, n0, p0, a0, l0, c_0, g00, g01, g02, g03, t0⟩ := hi 0 (by decide)
  have E0 := ih 0
  have k0 : tyT (sub 0) = 1 ∨ tyT (sub 0) = 2 := .inl (hsub 0 (by decide))
  have m0_ := m4 0 (by decide)
  obtain ⟨o1, n1, p1, a1, l1, c_1, g10, g11, g12, g13, t1⟩ := hi 1 (by decide)
  have E1 := ih 1
  have k1 : tyT (sub 1) = 1 ∨ tyT (sub 1) = 2 := .inl (hsub 1 (by decide))
  have m1_ := m4 1 (by decide)
  clear hi hat hsub
  have HEV := Lib.hid (show evT V (.node 7 n pl 2 sub) = evOp V 7 n (evT V (sub 0)) (evT V (sub 1)) from rfl)
  clear m3 m4 hmay hty ih
  have A := (Below.refl w.heap.size w).alloc (Nat.le_refl _) (.cells #[.int .i64 7, .int .i64 n, .int .i64 pl, .slice (some ⟨b, off, none⟩) 2 cap] 24)
  have pt : (w.alloc (.cells #[.int .i64 7, .int .i64 n, .int .i64 pl, .slice (some ⟨b, off, none⟩) 2 cap] 24)).heap[w.heap.size]? = some (.cells #[.int .i64 7, .int .i64 n, .int .i64 pl, .slice (some ⟨b, off, none⟩) 2 cap] 24 (0, 0)) := heap_alloc_new _ _
  go_enter Try.func35, Try.ntmps35
  go_upto_region 1 with fail
  obtain ⟨v1, hv⟩ : ∃ v, w.alloc (.cells #[.int .i64 7, .int .i64 n, .int .i64 pl, .slice (some ⟨b, off, none⟩) 2 cap] 24) = v := ⟨_, rfl⟩
  obtain ⟨gt, hg⟩ : ∃ g, w.heap.size = g := ⟨_, rfl⟩
  rw [hv] at pt A ⊢
  rw [hg] at pt ⊢
  have bt := A
  clear hv hg A
  have c0 : v1.cell? ⟨gt, 0, none⟩ = some (.int .i64 7) := cell_of_row _ _ 0 _ _ _ pt
  have c1 : v1.cell? ⟨gt, 1, none⟩ = some (.int .i64 n) := cell_of_row _ _ 1 _ _ _ pt
  have c3 : v1.cell? ⟨gt, 3, none⟩ = some (.slice (some ⟨b, off, none⟩) 2 cap) := cell_of_row _ _ 3 _ _ _ pt
  have y00 : v1.cell? ⟨b, off, none⟩ = some (.int .i64 o0) := (bt.cell (p := ⟨b, _, none⟩) hlt).trans g00
  have y01 : v1.cell? ⟨b, off + 1, none⟩ = some (.int .i64 n0) := (bt.cell (p := ⟨b, _, none⟩) hlt).trans g01
  have y02 : v1.cell? ⟨b, off + 2, none⟩ = some (.int .i64 p0) := (bt.cell (p := ⟨b, _, none⟩) hlt).trans g02
  have y03 : v1.cell? ⟨b, off + 3, none⟩ = some (.slice a0 l0 c_0) := (bt.cell (p := ⟨b, _, none⟩) hlt).trans g03
  go_wp2_with fail
  refine (E0 _ _ va vl vc V (t0.mono bt) (hV.mono bt) m0_ k0).mono ?_
  rintro e w2 ⟨rfl, b2⟩
  replace pt := (b2.block gt (Array.getElem?_eq_some_iff.1 pt).1).trans pt
  replace bt := below_then bt b2
  clear c0 c1 c3 y00 y01 y02 y03
  obtain ⟨xa, hx0⟩ : ∃ x, evT V (sub 0) = x := ⟨_, rfl⟩
  rw [hx0] at HEV ⊢
  clear hx0
  have c0 : w2.cell? ⟨gt, 0, none⟩ = some (.int .i64 7) := cell_of_row _ _ 0 _ _ _ pt
  have c1 : w2.cell? ⟨gt, 1, none⟩ = some (.int .i64 n) := cell_of_row _ _ 1 _ _ _ pt
  have c3 : w2.cell? ⟨gt, 3, none⟩ = some (.slice (some ⟨b, off, none⟩) 2 cap) := cell_of_row _ _ 3 _ _ _ pt
  have y10 : w2.cell? ⟨b, off + 4, none⟩ = some (.int .i64 o1) := (bt.cell (p := ⟨b, _, none⟩) hlt).trans g10
  have y11 : w2.cell? ⟨b, off + 5, none⟩ = some (.int .i64 n1) := (bt.cell (p := ⟨b, _, none⟩) hlt).trans g11
  have y12 : w2.cell? ⟨b, off + 6, none⟩ = some (.int .i64 p1) := (bt.cell (p := ⟨b, _, none⟩) hlt).trans g12
  have y13 : w2.cell? ⟨b, off + 7, none⟩ = some (.slice a1 l1 c_1) := (bt.cell (p := ⟨b, _, none⟩) hlt).trans g13
  go_wp2_with fail
  refine (E1 _ _ va vl vc V (t1.mono bt) (hV.mono bt) m1_ k1).mono ?_
  rintro e w3 ⟨rfl, b3⟩
  replace pt := (b3.block gt (Array.getElem?_eq_some_iff.1 pt).1).trans pt
  replace bt := below_then bt b3
  clear c0 c1 c3 y10 y11 y12 y13
  obtain ⟨xb, hx1⟩ : ∃ x, evT V (sub 1) = x := ⟨_, rfl⟩
  rw [hx1] at HEV ⊢
  clear hx1
  have c0 : w3.cell? ⟨gt, 0, none⟩ = some (.int .i64 7) := cell_of_row _ _ 0 _ _ _ pt
  have c1 : w3.cell? ⟨gt, 1, none⟩ = some (.int .i64 n) := cell_of_row _ _ 1 _ _ _ pt
  have c3 : w3.cell? ⟨gt, 3, none⟩ = some (.slice (some ⟨b, off, none⟩) 2 cap) := cell_of_row _ _ 3 _ _ _ pt
  go_wp2_with fail
  refine (truthR_any _ _).mono ?_
  rintro e w9 ⟨rfl, b9⟩
  have H10 := Lib.hid (below_then bt b9)
  go_wp2_with fail
  go_ret
  exact ⟨by rw [HEV.out, ev7]; simp [b01, t01], H10.out⟩
set_option maxRecDepth 40000 in
set_option maxHeartbeats 2000000 in
theorem refev_8 (n pl : Int) (len : Nat) (sub : Nat → T) (ih : ∀ j, EvalR (sub j)) : EvalR (.node 8 n pl len sub) := by
  intro w v va vl vc V ht hV hmay hty
  obtain ⟨a, cap, rfl, ho, hn, hp, hln, hnone, hat⟩ := ht
  obtain ⟨_, _, m3, m4⟩ := id hmay
  obtain rfl : len = 2 := by rw [m3]; rfl
  have hV0 := hV.len_eq
  have hsub : ∀ i, i < 2 → tyT (sub i) = 1 := ty_cmp hmay (by omega) (by decide)
  obtain ⟨b, off, rfl, hlt, hi⟩ := hat.resolve_left (by decide)
  obtain ⟨o0, n0, p0, a0, l0, c_0, g00, g01, g02, g03, t0⟩ := hi 0 (by decide)
  have E0 := ih 0
  have k0 : tyT (sub 0) = 1 ∨ tyT (sub 0) = 2 := .inl (hsub 0 (by decide))
  have m0_ := m4 0 (by decide)
  obtain ⟨o1, n1, p1, a1, l1, c_1, g10, g11, g12, g13, t1⟩ := hi 1 (by decide)
  have E1 := ih 1
  have k1 : tyT (sub 1) = 1 ∨ tyT (sub 1) = 2 := .inl (hsub 1 (by decide))
  have m1_ := m4 1 (by decide)
  clear hi hat hsub
  have HEV := Lib.hid (show evT V (.node 8 n pl 2 sub) = evOp V 8 n (evT V (sub 0)) (evT V (sub 1)) from rfl)
  clear m3 m4 hmay hty ih
  have A := (Below.refl w.heap.size w).alloc (Nat.le_refl _) (.cells #[.int .i64 8, .int .i64 n, .int .i64 pl, .slice (some ⟨b, off, none⟩) 2 cap] 24)
  have pt : (w.alloc (.cells #[.int .i64 8, .int .i64 n, .int .i64 pl, .slice (some ⟨b, off, none⟩) 2 cap] 24)).heap[w.heap.size]? = some (.cells #[.int .i64 8, .int .i64 n, .int .i64 pl, .slice (some ⟨b, off, none⟩) 2 cap] 24 (0, 0)) := heap_alloc_new _ _
  go_enter Try.func35, Try.ntmps35
  go_upto_region 1 with fail
  obtain ⟨v1, hv⟩ : ∃ v, w.alloc (.cells #[.int .i64 8, .int .i64 n, .int .i64 pl, .slice (some ⟨b, off, none⟩) 2 cap] 24) = v := ⟨_, rfl⟩
  obtain ⟨gt, hg⟩ : ∃ g, w.heap.size = g := ⟨_, rfl⟩
  rw [hv] at pt A ⊢
  rw [hg] at pt ⊢
  have bt := A
  clear hv hg A
  have c0 : v1.cell? ⟨gt, 0, none⟩ = some (.int .i64 8) := cell_of_row _ _ 0 _ _ _ pt
  have c1 : v1.cell? ⟨gt, 1, none⟩ = some (.int .i64 n) := cell_of_row _ _ 1 _ _ _ pt
  have c3 : v1.cell? ⟨gt, 3, none⟩ = some (.slice (some ⟨b, off, none⟩) 2 cap) := cell_of_row _ _ 3 _ _ _ pt
  have y00 : v1.cell? ⟨b, off, none⟩ = some (.int .i64 o0) := (bt.cell (p := ⟨b, _, none⟩) hlt).trans g00
  have y01 : v1.cell? ⟨b, off + 1, none⟩ = some (.int .i64 n0) := (bt.cell (p := ⟨b, _, none⟩) hlt).trans g01
  have y02 : v1.cell? ⟨b, off + 2, none⟩ = some (.int .i64 p0) := (bt.cell (p := ⟨b, _, none⟩) hlt).trans g02
  have y03 : v1.cell? ⟨b, off + 3, none⟩ = some (.slice a0 l0 c_0) := (bt.cell (p := ⟨b, _, none⟩) hlt).trans g03
  go_wp2_with fail
  refine (E0 _ _ va vl vc V (t0.mono bt) (hV.mono bt) m0_ k0).mono ?_
  rintro e w2 ⟨rfl, b2⟩
  replace pt := (b2.block gt (Array.getElem?_eq_some_iff.1 pt).1).trans pt
  replace bt := below_then bt b2
  clear c0 c1 c3 y00 y01 y02 y03
  obtain ⟨xa, hx0⟩ : ∃ x, evT V (sub 0) = x := ⟨_, rfl⟩
  rw [hx0] at HEV ⊢
  clear hx0
  have c0 : w2.cell? ⟨gt, 0, none⟩ = some (.int .i64 8) := cell_of_row _ _ 0 _ _ _ pt
  have c1 : w2.cell? ⟨gt, 1, none⟩ = some (.int .i64 n) := cell_of_row _ _ 1 _ _ _ pt
  have c3 : w2.cell? ⟨gt, 3, none⟩ = some (.slice (some ⟨b, off, none⟩) 2 cap) := cell_of_row _ _ 3 _ _ _ pt
  have y10 : w2.cell? ⟨b, off + 4, none⟩ = some (.int .i64 o1) := (bt.cell (p := ⟨b, _, none⟩) hlt).trans g10
  have y11 : w2.cell? ⟨b, off + 5, none⟩ = some (.int .i64 n1) := (bt.cell (p := ⟨b, _, none⟩) hlt).trans g11
  have y12 : w2.cell? ⟨b, off + 6, none⟩ = some (.int .i64 p1) := (bt.cell (p := ⟨b, _, none⟩) hlt).trans g12
  have y13 : w2.cell? ⟨b, off + 7, none⟩ = some (.slice a1 l1 c_1) := (bt.cell (p := ⟨b, _, none⟩) hlt).trans g13
  go_wp2_with fail
  refine (E1 _ _ va vl vc V (t1.mono bt) (hV.mono bt) m1_ k1).mono ?_
  rintro e w3 ⟨rfl, b3⟩
  replace pt := (b3.block gt (Array.getElem?_eq_some_iff.1 pt).1).trans pt
  replace bt := below_then bt b3
  clear c0 c1 c3 y10 y11 y12 y13
  obtain ⟨xb, hx1⟩ : ∃ x, evT V (sub 1) = x := ⟨_, rfl⟩
  rw [hx1] at HEV ⊢
  clear hx1
  have c0 : w3.cell? ⟨gt, 0, none⟩ = some (.int .i64 8) := cell_of_row _ _ 0 _ _ _ pt
  have c1 : w3.cell? ⟨gt, 1, none⟩ = some (.int .i64 n) := cell_of_row _ _ 1 _ _ _ pt
  have c3 : w3.cell? ⟨gt, 3, none⟩ = some (.slice (some ⟨b, off, none⟩) 2 cap) := cell_of_row _ _ 3 _ _ _ pt
  go_wp2_with fail
  refine (truthR_any _ _).mono ?_
  rintro e w9 ⟨rfl, b9⟩
  have H10 := Lib.hid (below_then bt b9)
  go_wp2_with fail
  go_ret
  exact ⟨by rw [HEV.out, ev8]; simp [b01, t01], H10.out⟩
end Go.Proofs.Ytdeanjphcggbpaa
