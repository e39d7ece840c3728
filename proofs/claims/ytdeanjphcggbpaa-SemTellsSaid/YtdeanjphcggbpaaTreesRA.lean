/- The document's Eval, kinds 1, 2, 3, 4 (by gen17n.py). -/
import Derived.Test.YtdeanjphcggbpaaTreesR0
namespace Go.Proofs.Ytdeanjphcggbpaa
open Go.RowKit
set_option linter.unusedVariables false
set_option linter.unusedSimpArgs false
set_option maxRecDepth 40000 in
set_option maxHeartbeats 2000000 in
theorem refev_1 (n pl : Int) (len : Nat) (sub : Nat → T) (ih : ∀ j, EvalR (sub j)) : EvalR (.node 1 n pl len sub) := by
  intro w v va vl vc V ht hV hmay hty
  obtain ⟨a, cap, rfl, ho, hn, hp, hln, hnone, hat⟩ := ht
  obtain ⟨_, _, m3, m4⟩ := id hmay
  obtain rfl : len = 0 := by rw [m3]; rfl
  have hV0 := hV.len_eq
  have HEV := Lib.hid (show evT V (.node 1 n pl 0 sub) = evOp V 1 n 0 0 from rfl)
  clear m3 m4 hmay hty ih
  have A := (Below.refl w.heap.size w).alloc (Nat.le_refl _) (.cells #[.int .i64 1, .int .i64 n, .int .i64 pl, .slice a 0 cap] 24)
  have pt : (w.alloc (.cells #[.int .i64 1, .int .i64 n, .int .i64 pl, .slice a 0 cap] 24)).heap[w.heap.size]? = some (.cells #[.int .i64 1, .int .i64 n, .int .i64 pl, .slice a 0 cap] 24 (0, 0)) := heap_alloc_new _ _
  go_enter Try.func35, Try.ntmps35
  go_upto_region 1 with fail
  obtain ⟨v1, hv⟩ : ∃ v, w.alloc (.cells #[.int .i64 1, .int .i64 n, .int .i64 pl, .slice a 0 cap] 24) = v := ⟨_, rfl⟩
  obtain ⟨gt, hg⟩ : ∃ g, w.heap.size = g := ⟨_, rfl⟩
  rw [hv] at pt A ⊢
  rw [hg] at pt ⊢
  have bt := A
  clear hv hg A
  have c0 : v1.cell? ⟨gt, 0, none⟩ = some (.int .i64 1) := cell_of_row _ _ 0 _ _ _ pt
  have c1 : v1.cell? ⟨gt, 1, none⟩ = some (.int .i64 n) := cell_of_row _ _ 1 _ _ _ pt
  have c3 : v1.cell? ⟨gt, 3, none⟩ = some (.slice a 0 cap) := cell_of_row _ _ 3 _ _ _ pt
  go_wp2_with fail
  go_ret
  exact ⟨by rw [HEV.out, ev1]; rfl, bt⟩
set_option maxRecDepth 40000 in
set_option maxHeartbeats 2000000 in
theorem refev_2 (n pl : Int) (len : Nat) (sub : Nat → T) (ih : ∀ j, EvalR (sub j)) : EvalR (.node 2 n pl len sub) := by
  intro w v va vl vc V ht hV hmay hty
  obtain ⟨a, cap, rfl, ho, hn, hp, hln, hnone, hat⟩ := ht
  obtain ⟨_, _, m3, m4⟩ := id hmay
  obtain rfl : len = 0 := by rw [m3]; rfl
  have hV0 := hV.len_eq
  have HEV := Lib.hid (show evT V (.node 2 n pl 0 sub) = evOp V 2 n 0 0 from rfl)
  clear m3 m4 hmay hty ih
  have A := (Below.refl w.heap.size w).alloc (Nat.le_refl _) (.cells #[.int .i64 2, .int .i64 n, .int .i64 pl, .slice a 0 cap] 24)
  have pt : (w.alloc (.cells #[.int .i64 2, .int .i64 n, .int .i64 pl, .slice a 0 cap] 24)).heap[w.heap.size]? = some (.cells #[.int .i64 2, .int .i64 n, .int .i64 pl, .slice a 0 cap] 24 (0, 0)) := heap_alloc_new _ _
  go_enter Try.func35, Try.ntmps35
  go_upto_region 1 with fail
  obtain ⟨v1, hv⟩ : ∃ v, w.alloc (.cells #[.int .i64 2, .int .i64 n, .int .i64 pl, .slice a 0 cap] 24) = v := ⟨_, rfl⟩
  obtain ⟨gt, hg⟩ : ∃ g, w.heap.size = g := ⟨_, rfl⟩
  rw [hv] at pt A ⊢
  rw [hg] at pt ⊢
  have bt := A
  clear hv hg A
  have c0 : v1.cell? ⟨gt, 0, none⟩ = some (.int .i64 2) := cell_of_row _ _ 0 _ _ _ pt
  have c1 : v1.cell? ⟨gt, 1, none⟩ = some (.int .i64 n) := cell_of_row _ _ 1 _ _ _ pt
  have c3 : v1.cell? ⟨gt, 3, none⟩ = some (.slice a 0 cap) := cell_of_row _ _ 3 _ _ _ pt
  have hVz := hV.mono bt
  by_cases n1 : n < 0
  · have q1 : decide (0 ≤ n) = false := by simp; omega
    go_wp2_with fail
    go_ret
    exact ⟨by rw [HEV.out]; simp [evOp, n1], bt⟩
  · have q1 : decide (0 ≤ n) = true := by simp; omega
    by_cases n2 : n < (vl : Int)
    · have q2 : decide (n < (vl : Int)) = true := by simpa using n2
      obtain ⟨m, rfl⟩ : ∃ m : Nat, n = (m : Int) := ⟨n.toNat, by omega⟩
      obtain ⟨vb, vo, rfl, _, hvc⟩ := hVz.at_.resolve_left (by omega)
      have hm := hvc m (by omega)
      have hml : m < vl := by omega
      obtain ⟨X, hX⟩ : ∃ X, V.getD m 0 = X := ⟨_, rfl⟩
      rw [hX] at hm
      have hev : evOp V 2 (m : Nat) 0 0 = X := by
        rw [← hX]
        unfold evOp; rw [if_neg (by decide), if_pos rfl, if_neg (by rw [hV0]; omega)]; simp
      have HE2 := Lib.hid hev
      clear hvc hev n1 n2 hX
      go_wp2_with fail
      go_ret
      exact ⟨by rw [HEV.out, HE2.out]; rfl, bt⟩
    · have q2 : decide (n < (vl : Int)) = false := by simpa using n2
      go_wp2_with fail
      go_ret
      exact ⟨by rw [HEV.out]; simp [evOp, hV0]; omega, bt⟩
set_option maxRecDepth 40000 in
set_option maxHeartbeats 2000000 in
theorem refev_3 (n pl : Int) (len : Nat) (sub : Nat → T) (ih : ∀ j, EvalR (sub j)) : EvalR (.node 3 n pl len sub) := by
  intro w v va vl vc V ht hV hmay hty
  obtain ⟨a, cap, rfl, ho, hn, hp, hln, hnone, hat⟩ := ht
  obtain ⟨_, _, m3, m4⟩ := id hmay
  obtain rfl : len = 2 := by rw [m3]; rfl
  have hV0 := hV.len_eq
  have hsub : ∀ i, i < 2 → tyT (sub i) = 1 := ty_cmp hmay (by omega) (by decide)
  obtain ⟨b, off, rfl, hlt, hi⟩ := hat.resolve_left (by decide)
  obtain ⟨o0, n0, p0, a0, l0, c_0, g00, g01, g02, g03, t0⟩ := hi 0 (by decide)
  have E0 := ih 0
  have k0 : tyT (sub 0) = 1 ∨ tyT (sub 0) = 2 := .inl (hsub 0 (by decide))
  have m0_ := m4 0 (by decide)
  obtain ⟨o1, n1, p1, a1, l1, c_1, g10, g11, g12, g13, t1⟩ := hi 1 (by decide)
  have E1 := ih 1
  have k1 : tyT (sub 1) = 1 ∨ tyT (sub 1) = 2 := .inl (hsub 1 (by decide))
  have m1_ := m4 1 (by decide)
  clear hi hat hsub
  have HEV := Lib.hid (show evT V (.node 3 n pl 2 sub) = evOp V 3 n (evT V (sub 0)) (evT V (sub 1)) from rfl)
  clear m3 m4 hmay hty ih
  have A := (Below.refl w.heap.size w).alloc (Nat.le_refl _) (.cells #[.int .i64 3, .int .i64 n, .int .i64 pl, .slice (some ⟨b, off, none⟩) 2 cap] 24)
  have pt : (w.alloc (.cells #[.int .i64 3, .int .i64 n, .int .i64 pl, .slice (some ⟨b, off, none⟩) 2 cap] 24)).heap[w.heap.size]? = some (.cells #[.int .i64 3, .int .i64 n, .int .i64 pl, .slice (some ⟨b, off, none⟩) 2 cap] 24 (0, 0)) := heap_alloc_new _ _
  go_enter Try.func35, Try.ntmps35
  go_upto_region 1 with fail
  obtain ⟨v1, hv⟩ : ∃ v, w.alloc (.cells #[.int .i64 3, .int .i64 n, .int .i64 pl, .slice (some ⟨b, off, none⟩) 2 cap] 24) = v := ⟨_, rfl⟩
  obtain ⟨gt, hg⟩ : ∃ g, w.heap.size = g := ⟨_, rfl⟩
  rw [hv] at pt A ⊢
  rw [hg] at pt ⊢
  have bt := A
  clear hv hg A
  have c0 : v1.cell? ⟨gt, 0, none⟩ = some (.int .i64 3) := cell_of_row _ _ 0 _ _ _ pt
  have c1 : v1.cell? ⟨gt, 1, none⟩ = some (.int .i64 n) := cell_of_row _ _ 1 _ _ _ pt
  have c3 : v1.cell? ⟨gt, 3, none⟩ = some (.slice (some ⟨b, off, none⟩) 2 cap) := cell_of_row _ _ 3 _ _ _ pt
  have y00 : v1.cell? ⟨b, off, none⟩ = some (.int .i64 o0) := (bt.cell (p := ⟨b, _, none⟩) hlt).trans g00
  have y01 : v1.cell? ⟨b, off + 1, none⟩ = some (.int .i64 n0) := (bt.cell (p := ⟨b, _, none⟩) hlt).trans g01
  have y02 : v1.cell? ⟨b, off + 2, none⟩ = some (.int .i64 p0) := (bt.cell (p := ⟨b, _, none⟩) hlt).trans g02
  have y03 : v1.cell? ⟨b, off + 3, none⟩ = some (.slice a0 l0 c_0) := (bt.cell (p := ⟨b, _, none⟩) hlt).trans g03
  go_wp2_with fail
  refine (E0 _ _ va vl vc V (t0.mono bt) (hV.mono bt) m0_ k0).mono ?_
  rintro e w2 ⟨rfl, b2⟩
  replace pt := (b2.block gt (Array.getElem?_eq_some_iff.1 pt).1).trans pt
  replace bt := below_then bt b2
  clear c0 c1 c3 y00 y01 y02 y03
  obtain ⟨xa, hx0⟩ : ∃ x, evT V (sub 0) = x := ⟨_, rfl⟩
  rw [hx0] at HEV ⊢
  clear hx0
  have c0 : w2.cell? ⟨gt, 0, none⟩ = some (.int .i64 3) := cell_of_row _ _ 0 _ _ _ pt
  have c1 : w2.cell? ⟨gt, 1, none⟩ = some (.int .i64 n) := cell_of_row _ _ 1 _ _ _ pt
  have c3 : w2.cell? ⟨gt, 3, none⟩ = some (.slice (some ⟨b, off, none⟩) 2 cap) := cell_of_row _ _ 3 _ _ _ pt
  have y10 : w2.cell? ⟨b, off + 4, none⟩ = some (.int .i64 o1) := (bt.cell (p := ⟨b, _, none⟩) hlt).trans g10
  have y11 : w2.cell? ⟨b, off + 5, none⟩ = some (.int .i64 n1) := (bt.cell (p := ⟨b, _, none⟩) hlt).trans g11
  have y12 : w2.cell? ⟨b, off + 6, none⟩ = some (.int .i64 p1) := (bt.cell (p := ⟨b, _, none⟩) hlt).trans g12
  have y13 : w2.cell? ⟨b, off + 7, none⟩ = some (.slice a1 l1 c_1) := (bt.cell (p := ⟨b, _, none⟩) hlt).trans g13
  go_wp2_with fail
  refine (E1 _ _ va vl vc V (t1.mono bt) (hV.mono bt) m1_ k1).mono ?_
  rintro e w3 ⟨rfl, b3⟩
  replace pt := (b3.block gt (Array.getElem?_eq_some_iff.1 pt).1).trans pt
  replace bt := below_then bt b3
  clear c0 c1 c3 y10 y11 y12 y13
  obtain ⟨xb, hx1⟩ : ∃ x, evT V (sub 1) = x := ⟨_, rfl⟩
  rw [hx1] at HEV ⊢
  clear hx1
  have c0 : w3.cell? ⟨gt, 0, none⟩ = some (.int .i64 3) := cell_of_row _ _ 0 _ _ _ pt
  have c1 : w3.cell? ⟨gt, 1, none⟩ = some (.int .i64 n) := cell_of_row _ _ 1 _ _ _ pt
  have c3 : w3.cell? ⟨gt, 3, none⟩ = some (.slice (some ⟨b, off, none⟩) 2 cap) := cell_of_row _ _ 3 _ _ _ pt
  go_wp2_with fail
  go_ret
  exact ⟨by rw [HEV.out, ev3]; rfl, bt⟩
set_option maxRecDepth 40000 in
set_option maxHeartbeats 2000000 in
theorem refev_4 (n pl : Int) (len : Nat) (sub : Nat → T) (ih : ∀ j, EvalR (sub j)) : EvalR (.node 4 n pl len sub) := by
  intro w v va vl vc V ht hV hmay hty
  obtain ⟨a, cap, rfl, ho, hn, hp, hln, hnone, hat⟩ := ht
  obtain ⟨_, _, m3, m4⟩ := id hmay
  obtain rfl : len = 2 := by rw [m3]; rfl
  have hV0 := hV.len_eq
  have hsub : ∀ i, i < 2 → tyT (sub i) = 1 := ty_cmp hmay (by omega) (by decide)
  obtain ⟨b, off, rfl, hlt, hi⟩ := hat.resolve_left (by decide)
  obtain ⟨o0, n0, p0, a0, l0, c_0, g00, g01, g02, g03, t0⟩ := hi 0 (by decide)
  have E0 := ih 0
  have k0 : tyT (sub 0) = 1 ∨ tyT (sub 0) = 2 := .inl (hsub 0 (by decide))
  have m0_ := m4 0 (by decide)
  obtain ⟨o1, n1, p1, a1, l1, c_1, g10, g11, g12, g13, t1⟩ := hi 1 (by decide)
  have E1 := ih 1
  have k1 : tyT (sub 1) = 1 ∨ tyT (sub 1) = 2 := .inl (hsub 1 (by decide))
  have m1_ := m4 1 (by decide)
  clear hi hat hsub
  have HEV := Lib.hid (show evT V (.node 4 n pl 2 sub) = evOp V 4 n (evT V (sub 0)) (evT V (sub 1)) from rfl)
  clear m3 m4 hmay hty ih
  have A := (Below.refl w.heap.size w).alloc (Nat.le_refl _) (.cells #[.int .i64 4, .int .i64 n, .int .i64 pl, .slice (some ⟨b, off, none⟩) 2 cap] 24)
  have pt : (w.alloc (.cells #[.int .i64 4, .int .i64 n, .int .i64 pl, .slice (some ⟨b, off, none⟩) 2 cap] 24)).heap[w.heap.size]? = some (.cells #[.int .i64 4, .int .i64 n, .int .i64 pl, .slice (some ⟨b, off, none⟩) 2 cap] 24 (0, 0)) := heap_alloc_new _ _
  go_enter Try.func35, Try.ntmps35
  go_upto_region 1 with fail
  obtain ⟨v1, hv⟩ : ∃ v, w.alloc (.cells #[.int .i64 4, .int .i64 n, .int .i64 pl, .slice (some ⟨b, off, none⟩) 2 cap] 24) = v := ⟨_, rfl⟩
  obtain ⟨gt, hg⟩ : ∃ g, w.heap.size = g := ⟨_, rfl⟩
  rw [hv] at pt A ⊢
  rw [hg] at pt ⊢
  have bt := A
  clear hv hg A
  have c0 : v1.cell? ⟨gt, 0, none⟩ = some (.int .i64 4) := cell_of_row _ _ 0 _ _ _ pt
  have c1 : v1.cell? ⟨gt, 1, none⟩ = some (.int .i64 n) := cell_of_row _ _ 1 _ _ _ pt
  have c3 : v1.cell? ⟨gt, 3, none⟩ = some (.slice (some ⟨b, off, none⟩) 2 cap) := cell_of_row _ _ 3 _ _ _ pt
  have y00 : v1.cell? ⟨b, off, none⟩ = some (.int .i64 o0) := (bt.cell (p := ⟨b, _, none⟩) hlt).trans g00
  have y01 : v1.cell? ⟨b, off + 1, none⟩ = some (.int .i64 n0) := (bt.cell (p := ⟨b, _, none⟩) hlt).trans g01
  have y02 : v1.cell? ⟨b, off + 2, none⟩ = some (.int .i64 p0) := (bt.cell (p := ⟨b, _, none⟩) hlt).trans g02
  have y03 : v1.cell? ⟨b, off + 3, none⟩ = some (.slice a0 l0 c_0) := (bt.cell (p := ⟨b, _, none⟩) hlt).trans g03
  go_wp2_with fail
  refine (E0 _ _ va vl vc V (t0.mono bt) (hV.mono bt) m0_ k0).mono ?_
  rintro e w2 ⟨rfl, b2⟩
  replace pt := (b2.block gt (Array.getElem?_eq_some_iff.1 pt).1).trans pt
  replace bt := below_then bt b2
  clear c0 c1 c3 y00 y01 y02 y03
  obtain ⟨xa, hx0⟩ : ∃ x, evT V (sub 0) = x := ⟨_, rfl⟩
  rw [hx0] at HEV ⊢
  clear hx0
  have c0 : w2.cell? ⟨gt, 0, none⟩ = some (.int .i64 4) := cell_of_row _ _ 0 _ _ _ pt
  have c1 : w2.cell? ⟨gt, 1, none⟩ = some (.int .i64 n) := cell_of_row _ _ 1 _ _ _ pt
  have c3 : w2.cell? ⟨gt, 3, none⟩ = some (.slice (some ⟨b, off, none⟩) 2 cap) := cell_of_row _ _ 3 _ _ _ pt
  have y10 : w2.cell? ⟨b, off + 4, none⟩ = some (.int .i64 o1) := (bt.cell (p := ⟨b, _, none⟩) hlt).trans g10
  have y11 : w2.cell? ⟨b, off + 5, none⟩ = some (.int .i64 n1) := (bt.cell (p := ⟨b, _, none⟩) hlt).trans g11
  have y12 : w2.cell? ⟨b, off + 6, none⟩ = some (.int .i64 p1) := (bt.cell (p := ⟨b, _, none⟩) hlt).trans g12
  have y13 : w2.cell? ⟨b, off + 7, none⟩ = some (.slice a1 l1 c_1) := (bt.cell (p := ⟨b, _, none⟩) hlt).trans g13
  go_wp2_with fail
  refine (E1 _ _ va vl vc V (t1.mono bt) (hV.mono bt) m1_ k1).mono ?_
  rintro e w3 ⟨rfl, b3⟩
  replace pt := (b3.block gt (Array.getElem?_eq_some_iff.1 pt).1).trans pt
  replace bt := below_then bt b3
  clear c0 c1 c3 y10 y11 y12 y13
  obtain ⟨xb, hx1⟩ : ∃ x, evT V (sub 1) = x := ⟨_, rfl⟩
  rw [hx1] at HEV ⊢
  clear hx1
  have c0 : w3.cell? ⟨gt, 0, none⟩ = some (.int .i64 4) := cell_of_row _ _ 0 _ _ _ pt
  have c1 : w3.cell? ⟨gt, 1, none⟩ = some (.int .i64 n) := cell_of_row _ _ 1 _ _ _ pt
  have c3 : w3.cell? ⟨gt, 3, none⟩ = some (.slice (some ⟨b, off, none⟩) 2 cap) := cell_of_row _ _ 3 _ _ _ pt
  go_wp2_with fail
  go_ret
  exact ⟨by rw [HEV.out, ev4]; rfl, bt⟩
end Go.Proofs.Ytdeanjphcggbpaa
