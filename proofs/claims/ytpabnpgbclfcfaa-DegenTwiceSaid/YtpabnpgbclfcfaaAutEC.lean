/- The document's Same of two automata (by gen19ec.py). -/
import Derived.Test.YtpabnpgbclfcfaaAutE
namespace Go.Proofs.Ytpabnpgbclfcfaa
open Go.RowKit
set_option linter.unusedVariables false
set_option linter.unusedSimpArgs false

theorem WordAt.congr {w : World} {a : Option Addr} {n : Nat} {r s : Nat → List Int} (h : WordAt w a n r) (he : ∀ j, j < n → r j = s j) : WordAt w a n s := by
  rcases h with h0 | ⟨b, off, ha, hlt, hi⟩
  · exact .inl h0
  · exact .inr ⟨b, off, ha, hlt, fun j hj => by rw [← he j hj]; exact hi j hj⟩
theorem PartsAt.congr {w : World} {a : Option Addr} {n : Nat} {r s : Nat → T} (h : PartsAt w a n r) (he : ∀ j, j < n → r j = s j) : PartsAt w a n s := by
  rcases h with h0 | ⟨b, off, ha, hlt, hi⟩
  · exact .inl h0
  · exact .inr ⟨b, off, ha, hlt, fun j hj => by rw [← he j hj]; exact hi j hj⟩
theorem LitsAt.congr {w : World} {a : Option Addr} {n : Nat} {ln ln' : Nat → Nat} {r s : Nat → Nat → T} (h : LitsAt w a n ln r) (he : ∀ j, j < n → ln j = ln' j ∧ ∀ i, i < ln j → r j i = s j i) : LitsAt w a n ln' s := by
  rcases h with h0 | ⟨b, off, ha, hlt, hi⟩
  · exact .inl h0
  · refine .inr ⟨b, off, ha, hlt, fun j hj => ?_⟩
    obtain ⟨ra, rc, g0, g1, g2⟩ := hi j hj
    obtain ⟨e1, e2⟩ := he j hj
    rw [← e1]
    exact ⟨ra, rc, g0, g1, g2.congr e2⟩
set_option maxRecDepth 20000 in
set_option maxHeartbeats 2000000 in
theorem same_any18 (w : World) (la na ia ca la2 na2 ia2 ca2 : Option Addr) (n lc nn nc il ic cn cc lc2 nc2 ic2 cc2 : Nat) (ln : Nat → Nat) (lit : Nat → Nat → T) (next : Nat → List Int) (init : List Int) (acc : Nat → List Int) (h : AutAt w la na ia ca n nn il cn ln lit next init acc) (h2 : AutAt w la2 na2 ia2 ca2 n nn il cn ln lit next init acc) :
    Calls Try.prog 10 #[.agg #[.slice la n lc, .slice na nn nc, .slice ia il ic, .slice ca cn cc], .agg #[.slice la2 n lc2, .slice na2 nn nc2, .slice ia2 il ic2, .slice ca2 cn cc2]] w fun e w' => e = .returned (.bool true) ∧ Below w.heap.size w w' := by
  have hn := h.hn
  have hnn := h.hnn
  have hcn := h.hcn
  obtain ⟨pt, pu, A⟩ := two_new w #[.slice la n lc, .slice na nn nc, .slice ia il ic, .slice ca cn cc] #[.slice la2 n lc2, .slice na2 nn nc2, .slice ia2 il ic2, .slice ca2 cn cc2] (26) (26)
  go_enter Try.func10, Try.ntmps10
  go_upto_region 1 with fail
  obtain ⟨v1, hv⟩ : ∃ v, (w.alloc (.cells #[.slice la n lc, .slice na nn nc, .slice ia il ic, .slice ca cn cc] 26)).alloc (.cells #[.slice la2 n lc2, .slice na2 nn nc2, .slice ia2 il ic2, .slice ca2 cn cc2] 26) = v := ⟨_, rfl⟩
  rw [hv] at pt pu A ⊢
  obtain ⟨gu, hgu⟩ : ∃ g, w.heap.size + 1 = g := ⟨_, rfl⟩
  rw [hgu] at pu ⊢
  obtain ⟨g, hgt⟩ : ∃ g, w.heap.size = g := ⟨_, rfl⟩
  rw [hgt] at pt ⊢
  have bt := A
  clear hv hgu hgt A
  have c0 : v1.cell? ⟨g, 0, none⟩ = some (.slice la n lc) := cell_of_row _ _ 0 _ _ _ pt
  have c1 : v1.cell? ⟨g, 1, none⟩ = some (.slice na nn nc) := cell_of_row _ _ 1 _ _ _ pt
  have c2 : v1.cell? ⟨g, 2, none⟩ = some (.slice ia il ic) := cell_of_row _ _ 2 _ _ _ pt
  have c3 : v1.cell? ⟨g, 3, none⟩ = some (.slice ca cn cc) := cell_of_row _ _ 3 _ _ _ pt
  have d0 : v1.cell? ⟨gu, 0, none⟩ = some (.slice la2 n lc2) := cell_of_row _ _ 0 _ _ _ pu
  have d1 : v1.cell? ⟨gu, 1, none⟩ = some (.slice na2 nn nc2) := cell_of_row _ _ 1 _ _ _ pu
  have d2 : v1.cell? ⟨gu, 2, none⟩ = some (.slice ia2 il ic2) := cell_of_row _ _ 2 _ _ _ pu
  have d3 : v1.cell? ⟨gu, 3, none⟩ = some (.slice ca2 cn cc2) := cell_of_row _ _ 3 _ _ _ pu
  go_wp2_with fail
  refine ((rows_same _ na na2 nn nc nc2 next next (h.next.mono bt) (h2.next.mono bt) hnn (fun _ _ => rfl))).mono ?_
  rintro e w2 ⟨rfl, b2⟩
  replace pt := (b2.block g (Array.getElem?_eq_some_iff.1 pt).1).trans pt
  replace pu := (b2.block gu (Array.getElem?_eq_some_iff.1 pu).1).trans pu
  replace bt := below_then bt b2
  clear c0 c1 c2 c3 d0 d1 d2 d3
  have c0 : w2.cell? ⟨g, 0, none⟩ = some (.slice la n lc) := cell_of_row _ _ 0 _ _ _ pt
  have c1 : w2.cell? ⟨g, 1, none⟩ = some (.slice na nn nc) := cell_of_row _ _ 1 _ _ _ pt
  have c2 : w2.cell? ⟨g, 2, none⟩ = some (.slice ia il ic) := cell_of_row _ _ 2 _ _ _ pt
  have c3 : w2.cell? ⟨g, 3, none⟩ = some (.slice ca cn cc) := cell_of_row _ _ 3 _ _ _ pt
  have d0 : w2.cell? ⟨gu, 0, none⟩ = some (.slice la2 n lc2) := cell_of_row _ _ 0 _ _ _ pu
  have d1 : w2.cell? ⟨gu, 1, none⟩ = some (.slice na2 nn nc2) := cell_of_row _ _ 1 _ _ _ pu
  have d2 : w2.cell? ⟨gu, 2, none⟩ = some (.slice ia2 il ic2) := cell_of_row _ _ 2 _ _ _ pu
  have d3 : w2.cell? ⟨gu, 3, none⟩ = some (.slice ca2 cn cc2) := cell_of_row _ _ 3 _ _ _ pu
  go_wp2_with fail
  refine ((rows_same _ ca ca2 cn cc cc2 acc acc (h.acc.mono bt) (h2.acc.mono bt) hcn (fun _ _ => rfl))).mono ?_
  rintro e w3 ⟨rfl, b3⟩
  replace pt := (b3.block g (Array.getElem?_eq_some_iff.1 pt).1).trans pt
  replace pu := (b3.block gu (Array.getElem?_eq_some_iff.1 pu).1).trans pu
  replace bt := below_then bt b3
  clear c0 c1 c2 c3 d0 d1 d2 d3
  have c0 : w3.cell? ⟨g, 0, none⟩ = some (.slice la n lc) := cell_of_row _ _ 0 _ _ _ pt
  have c1 : w3.cell? ⟨g, 1, none⟩ = some (.slice na nn nc) := cell_of_row _ _ 1 _ _ _ pt
  have c2 : w3.cell? ⟨g, 2, none⟩ = some (.slice ia il ic) := cell_of_row _ _ 2 _ _ _ pt
  have c3 : w3.cell? ⟨g, 3, none⟩ = some (.slice ca cn cc) := cell_of_row _ _ 3 _ _ _ pt
  have d0 : w3.cell? ⟨gu, 0, none⟩ = some (.slice la2 n lc2) := cell_of_row _ _ 0 _ _ _ pu
  have d1 : w3.cell? ⟨gu, 1, none⟩ = some (.slice na2 nn nc2) := cell_of_row _ _ 1 _ _ _ pu
  have d2 : w3.cell? ⟨gu, 2, none⟩ = some (.slice ia2 il ic2) := cell_of_row _ _ 2 _ _ _ pu
  have d3 : w3.cell? ⟨gu, 3, none⟩ = some (.slice ca2 cn cc2) := cell_of_row _ _ 3 _ _ _ pu
  have kk := vec_any w3 ia il ic ia2 il ic2 init init (h.init.mono bt) (h2.init.mono bt)
  rw [decide_eq_true rfl] at kk
  go_wp2_with fail
  refine (kk).mono ?_
  rintro e w4 ⟨rfl, b4⟩
  replace pt := (b4.block g (Array.getElem?_eq_some_iff.1 pt).1).trans pt
  replace pu := (b4.block gu (Array.getElem?_eq_some_iff.1 pu).1).trans pu
  replace bt := below_then bt b4
  clear c0 c1 c2 c3 d0 d1 d2 d3
  have c0 : w4.cell? ⟨g, 0, none⟩ = some (.slice la n lc) := cell_of_row _ _ 0 _ _ _ pt
  have c1 : w4.cell? ⟨g, 1, none⟩ = some (.slice na nn nc) := cell_of_row _ _ 1 _ _ _ pt
  have c2 : w4.cell? ⟨g, 2, none⟩ = some (.slice ia il ic) := cell_of_row _ _ 2 _ _ _ pt
  have c3 : w4.cell? ⟨g, 3, none⟩ = some (.slice ca cn cc) := cell_of_row _ _ 3 _ _ _ pt
  have d0 : w4.cell? ⟨gu, 0, none⟩ = some (.slice la2 n lc2) := cell_of_row _ _ 0 _ _ _ pu
  have d1 : w4.cell? ⟨gu, 1, none⟩ = some (.slice na2 nn nc2) := cell_of_row _ _ 1 _ _ _ pu
  have d2 : w4.cell? ⟨gu, 2, none⟩ = some (.slice ia2 il ic2) := cell_of_row _ _ 2 _ _ _ pu
  have d3 : w4.cell? ⟨gu, 3, none⟩ = some (.slice ca2 cn cc2) := cell_of_row _ _ 3 _ _ _ pu
  have e1 : ((n : Int) != (n : Int)) = false := by simp
  go_wp2_with fail
  clear c1 c2 c3 d1 d2 d3
  go_loopw [8] (fun i w' => ∃ q : Nat, q ≤ n ∧ i = .int .i64 (q : Nat) ∧ w'.heap[g]? = some (.cells #[.slice la n lc, .slice na nn nc, .slice ia il ic, .slice ca cn cc] 26 (0, 0)) ∧ w'.heap[gu]? = some (.cells #[.slice la2 n lc2, .slice na2 nn nc2, .slice ia2 il ic2, .slice ca2 cn cc2] 26 (0, 0)) ∧ Below w.heap.size w w') (fun i _ => n - (intOf i).toNat)
  case atStart => exact ⟨0, Nat.zero_le _, rfl, pt, pu, bt⟩
  case round =>
    clear pt pu bt c0 d0
    obtain ⟨q, hq, rfl, pt, pu, bt⟩ := hrel
    have c0 : wr.cell? ⟨g, 0, none⟩ = some (.slice la n lc) := cell_of_row _ _ 0 _ _ _ pt
    have d0 : wr.cell? ⟨gu, 0, none⟩ = some (.slice la2 n lc2) := cell_of_row _ _ 0 _ _ _ pu
    by_cases hqn : q < n
    · have f1 : decide (q < n) = true := by simpa using hqn
      obtain ⟨b1, o1, rfl, hb1, x1, k1, e2, s2, r2⟩ := (h.lits.mono bt).cell hqn
      obtain ⟨b2, o2, rfl, hb2, x2, k2, e3, s3, r3⟩ := (h2.lits.mono bt).cell hqn
      have z1 : ((ln q : Int) != (ln q : Int)) = false := by simp
      have q0 : ∀ x : Later wr.heap.size wr, x.w.cell? ⟨g, 0, none⟩ = some (.slice (some ⟨b1, o1, none⟩) n lc) := fun x => (x.below.cell (p := ⟨g, 0, none⟩) (Array.getElem?_eq_some_iff.1 pt).1).trans c0
      have q1 : ∀ x : Later wr.heap.size wr, x.w.cell? ⟨gu, 0, none⟩ = some (.slice (some ⟨b2, o2, none⟩) n lc2) := fun x => (x.below.cell (p := ⟨gu, 0, none⟩) (Array.getElem?_eq_some_iff.1 pu).1).trans d0
      have q2 : ∀ x : Later wr.heap.size wr, x.w.cell? ⟨b1, o1 + q, none⟩ = some (.slice x1 (ln q) k1) := fun x => (x.below.cell (p := ⟨b1, o1 + q, none⟩) hb1).trans e2
      have q3 : ∀ x : Later wr.heap.size wr, x.w.cell? ⟨b2, o2 + q, none⟩ = some (.slice x2 (ln q) k2) := fun x => (x.below.cell (p := ⟨b2, o2 + q, none⟩) hb2).trans e3
      clear r2 r3
      go_wp2_with fail
      refine wp_region_later wr.heap.size wr (by kernel_rfl) (by kernel_rfl) (Below.refl _ _) ?_
      repeat (go_big_quiet_step (fail))
      refine wpQuiet_nil ?_
      intro _ hlat
      obtain ⟨x, rfl⟩ := hlat
      have pt2 := (x.below.block g (Array.getElem?_eq_some_iff.1 pt).1).trans pt
      have pu2 := (x.below.block gu (Array.getElem?_eq_some_iff.1 pu).1).trans pu
      have bt2 := below_then bt x.below
      clear q0 q1 q2 q3 pt pu bt c0 d0 e2 e3
      go_wp2_with fail
      go_loopw [9] (fun i w' => ∃ j : Nat, j ≤ ln q ∧ i = .int .i64 (j : Nat) ∧ w'.heap[g]? = some (.cells #[.slice (some ⟨b1, o1, none⟩) n lc, .slice na nn nc, .slice ia il ic, .slice ca cn cc] 26 (0, 0)) ∧ w'.heap[gu]? = some (.cells #[.slice (some ⟨b2, o2, none⟩) n lc2, .slice na2 nn nc2, .slice ia2 il ic2, .slice ca2 cn cc2] 26 (0, 0)) ∧ Below w.heap.size w w') (fun i _ => ln q - (intOf i).toNat)
      case atStart => exact ⟨0, Nat.zero_le _, rfl, pt2, pu2, bt2⟩
      case round =>
        clear pt2 pu2 bt2
        obtain ⟨j, hj, rfl, pt, pu, bt⟩ := hrel
        obtain ⟨b1', o1', he1, hb1, x1, k1, e2, s2, r2⟩ := (h.lits.mono bt).cell hqn
        cases he1
        obtain ⟨b2', o2', he2, hb2, x2, k2, e3, s3, r3⟩ := (h2.lits.mono bt).cell hqn
        cases he2
        have c0 : wr.cell? ⟨g, 0, none⟩ = some (.slice (some ⟨b1, o1, none⟩) n lc) := cell_of_row _ _ 0 _ _ _ pt
        have d0 : wr.cell? ⟨gu, 0, none⟩ = some (.slice (some ⟨b2, o2, none⟩) n lc2) := cell_of_row _ _ 0 _ _ _ pu
        by_cases hjl : j < ln q
        · have f2 : decide (j < ln q) = true := by simpa using hjl
          obtain ⟨b, off, rfl, hlt, o', n', p', a', l', c', g0, g1, g2, g3, g4⟩ := r2.cell hjl
          obtain ⟨b', off', rfl, hlt', o2', n2', p2', a2', l2', c2', k0', k1', k2', k3', k4'⟩ := r3.cell hjl
          have s0 : ∀ x : Later wr.heap.size wr, x.w.cell? ⟨g, 0, none⟩ = some (.slice (some ⟨b1, o1, none⟩) n lc) := fun x => (x.below.cell (p := ⟨g, 0, none⟩) (Array.getElem?_eq_some_iff.1 pt).1).trans c0
          have s1 : ∀ x : Later wr.heap.size wr, x.w.cell? ⟨gu, 0, none⟩ = some (.slice (some ⟨b2, o2, none⟩) n lc2) := fun x => (x.below.cell (p := ⟨gu, 0, none⟩) (Array.getElem?_eq_some_iff.1 pu).1).trans d0
          have s2' : ∀ x : Later wr.heap.size wr, x.w.cell? ⟨b1, o1 + q, none⟩ = some (.slice (some ⟨b, off, none⟩) (ln q) k1) := fun x => (x.below.cell (p := ⟨b1, o1 + q, none⟩) hb1).trans e2
          have s3' : ∀ x : Later wr.heap.size wr, x.w.cell? ⟨b2, o2 + q, none⟩ = some (.slice (some ⟨b', off', none⟩) (ln q) k2) := fun x => (x.below.cell (p := ⟨b2, o2 + q, none⟩) hb2).trans e3
          have y0 : ∀ x : Later wr.heap.size wr, x.w.cell? ⟨b, off + j * 4, none⟩ = some (.int .i64 o') := fun x => (x.below.cell (p := ⟨b, _, none⟩) hlt).trans g0
          have y1 : ∀ x : Later wr.heap.size wr, x.w.cell? ⟨b, off + j * 4 + 1, none⟩ = some (.int .i64 n') := fun x => (x.below.cell (p := ⟨b, _, none⟩) hlt).trans g1
          have y2 : ∀ x : Later wr.heap.size wr, x.w.cell? ⟨b, off + j * 4 + 2, none⟩ = some (.int .i64 p') := fun x => (x.below.cell (p := ⟨b, _, none⟩) hlt).trans g2
          have y3 : ∀ x : Later wr.heap.size wr, x.w.cell? ⟨b, off + j * 4 + 3, none⟩ = some (.slice a' l' c') := fun x => (x.below.cell (p := ⟨b, _, none⟩) hlt).trans g3
          have x0 : ∀ x : Later wr.heap.size wr, x.w.cell? ⟨b', off' + j * 4, none⟩ = some (.int .i64 o2') := fun x => (x.below.cell (p := ⟨b', _, none⟩) hlt').trans k0'
          have x1 : ∀ x : Later wr.heap.size wr, x.w.cell? ⟨b', off' + j * 4 + 1, none⟩ = some (.int .i64 n2') := fun x => (x.below.cell (p := ⟨b', _, none⟩) hlt').trans k1'
          have x2 : ∀ x : Later wr.heap.size wr, x.w.cell? ⟨b', off' + j * 4 + 2, none⟩ = some (.int .i64 p2') := fun x => (x.below.cell (p := ⟨b', _, none⟩) hlt').trans k2'
          have x3 : ∀ x : Later wr.heap.size wr, x.w.cell? ⟨b', off' + j * 4 + 3, none⟩ = some (.slice a2' l2' c2') := fun x => (x.below.cell (p := ⟨b', _, none⟩) hlt').trans k3'
          have kk : ∀ x : Later wr.heap.size wr, Calls Try.prog 22 #[.agg #[.int .i64 o', .int .i64 n', .int .i64 p', .slice a' l' c'], .agg #[.int .i64 o2', .int .i64 n2', .int .i64 p2', .slice a2' l2' c2']] x.w fun e w' => e = .returned (.bool true) ∧ Below x.w.heap.size x.w w' := fun x => places_same (lit q j) x.w _ _ (g4.mono x.below) (k4'.mono x.below)
          clear g0 g1 g2 g3 g4 k0' k1' k2' k3' k4'
          go_wp2_with fail
          refine wp_region_later wr.heap.size wr (by kernel_rfl) (by kernel_rfl) (Below.refl _ _) ?_
          repeat (go_big_quiet_step ((go_at_call 22; refine Calls.later0 (kk _))))
          refine wpQuiet_nil ?_
          intro _ hlat
          obtain ⟨x, rfl⟩ := hlat
          have pt2 := (x.below.block g (Array.getElem?_eq_some_iff.1 pt).1).trans pt
          have pu2 := (x.below.block gu (Array.getElem?_eq_some_iff.1 pu).1).trans pu
          have bt2 := below_then bt x.below
          clear s0 s1 s2' s3' y0 y1 y2 y3 x0 x1 x2 x3 kk
          go_wp2_with fail
          exact ⟨⟨j + 1, by omega, by simp, pt2, pu2, bt2⟩, by simp [intOf]; omega⟩
        · have f2 : decide (j < ln q) = false := by simpa using hjl
          obtain rfl : j = ln q := by omega
          go_wp2_with fail
          exact ⟨⟨q + 1, by omega, by simp, pt, pu, bt⟩, by simp [intOf]; omega⟩
    · have f1 : decide (q < n) = false := by simpa using hqn
      obtain rfl : q = n := by omega
      go_wp2_with fail
      go_ret
      exact ⟨rfl, bt⟩
end Go.Proofs.Ytpabnpgbclfcfaa
