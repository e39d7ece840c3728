/- An automaton as an argument (by gen19q.py). -/
import Derived.Test.YtpabnpgbclfcfaaAutArg
namespace Go.Proofs.Ytpabnpgbclfcfaa
open Go.RowKit Go.ChangeShapes Go.WideShapes Go.ChangeAt
set_option linter.unusedVariables false
set_option linter.unusedSimpArgs false

section
variable {H : Type} {enc : TypeId × Value → H} {w : World} {base b0 : Nat} {spare : Nat → Bool} {held : Bool} {r : Reach}
theorem parts_trod_w {fuel R : Nat} {cs0 : List Value} {y : DataW H × List MemPlace} (h : DataW.trod enc Try.prog w base spare held fuel 38 cs0 = some y) (hw : ∀ k ∈ y.1.weights Try.prog 38, k ≤ R) :
    ∃ (a : Option Addr) (n c : Nat) (sub : Nat → T), cs0 = [.slice a n c] ∧ n ≤ 9223372036854775807 ∧ n ≤ R ∧ PartsAt w a n sub := by
  obtain ⟨a, len, cap, rfl, _, hm, hR, hat⟩ := elems_trod_w (c := 4) Try.underlying38 (by kernel_rfl) (by decide) (of_decide_eq_true (by kernel_rfl)) h hw
  rcases hat with h0' | ⟨b, off, rfl, hlt, hi2⟩
  · exact ⟨a, len, cap, fun _ => .nil, rfl, hm, hR, .inl h0'⟩
  have key : ∀ j, ∃ t : T, j < len → ∃ (o' n' p' : Int) (a' : Option Addr) (l' c' : Nat), w.cell? ⟨b, off + j * 4, none⟩ = some (.int .i64 o') ∧ w.cell? ⟨b, off + j * 4 + 1, none⟩ = some (.int .i64 n') ∧ w.cell? ⟨b, off + j * 4 + 2, none⟩ = some (.int .i64 p') ∧ w.cell? ⟨b, off + j * 4 + 3, none⟩ = some (.slice a' l' c') ∧ TreeAt w t (.agg #[.int .i64 o', .int .i64 n', .int .i64 p', .slice a' l' c']) := by
    intro j
    by_cases hj : j < len
    · obtain ⟨cs, n, z, hlen, hcell, htr, _⟩ := hi2 j hj
      obtain ⟨t, op, n', pl, a', l', c', rfl, ht⟩ := tree_trod (sl := 38) Try.underlying40 rfl rfl rfl rfl rfl rfl rfl rfl rfl Try.underlying3 Try.underlying3 Try.underlying3 Try.underlying38 (by kernel_rfl) (by kernel_rfl) (by kernel_rfl) (by kernel_rfl) (by kernel_rfl) _ _ _ htr
      exact ⟨t, fun _ => ⟨op, n', pl, a', l', c', hcell 0 (by decide), hcell 1 (by decide), hcell 2 (by decide), hcell 3 (by decide), ht⟩⟩
    · exact ⟨.nil, fun hh => absurd hh hj⟩
  obtain ⟨f, hf⟩ := Classical.axiomOfChoice key
  exact ⟨_, len, cap, f, rfl, hm, hR, .inr ⟨b, off, rfl, hlt, fun j hj => hf j hj⟩⟩
theorem lits_trod_w {fuel R : Nat} {cs0 : List Value} {y : DataW H × List MemPlace} (h : DataW.trod enc Try.prog w base spare held fuel 22 cs0 = some y) (hw : ∀ k ∈ y.1.weights Try.prog 22, k ≤ R) :
    ∃ (a : Option Addr) (n c : Nat) (ln : Nat → Nat) (lit : Nat → Nat → T), cs0 = [.slice a n c] ∧ n ≤ 9223372036854775807 ∧ n ≤ R ∧ LitsAt w a n ln lit ∧ ∀ i, i < n → ln i ≤ R := by
  obtain ⟨a, len, cap, rfl, _, hm, hR, hat⟩ := elems_trod_w (c := 1) Try.underlying22 (by kernel_rfl) (by decide) (of_decide_eq_true (by kernel_rfl)) h hw
  rcases hat with h0' | ⟨b, off, rfl, hlt, hi2⟩
  · exact ⟨a, len, cap, fun _ => 0, fun _ _ => .nil, rfl, hm, hR, .inl h0', fun i hi => by omega⟩
  have key : ∀ j, ∃ q : Nat × (Nat → T), j < len → (∃ (ra : Option Addr) (rc : Nat), w.cell? ⟨b, off + j, none⟩ = some (.slice ra q.1 rc) ∧ q.1 ≤ 9223372036854775807 ∧ PartsAt w ra q.1 q.2) ∧ q.1 ≤ R := by
    intro j
    by_cases hj : j < len
    · obtain ⟨cs, n, z, hlen, hcell, htr, hk⟩ := hi2 j hj
      obtain ⟨ra, rl, rc, sub, rfl, hl, hr, hp⟩ := parts_trod_w htr hk
      have := hcell 0 (by decide)
      rw [Nat.mul_one, Nat.add_zero] at this
      exact ⟨(rl, sub), fun _ => ⟨⟨ra, rc, this, hl, hp⟩, hr⟩⟩
    · exact ⟨(0, fun _ => .nil), fun hh => absurd hh hj⟩
  obtain ⟨f, hf⟩ := Classical.axiomOfChoice key
  exact ⟨_, len, cap, fun i => (f i).1, fun i => (f i).2, rfl, hm, hR, .inr ⟨b, off, rfl, hlt, fun j hj => (hf j hj).1⟩, fun j hj => (hf j hj).2⟩
theorem aut_trod {fuel : Nat} {cs : List Value} {y : DataW H × List MemPlace} (h : DataW.trod enc Try.prog w base spare held fuel 26 cs = some y) (hw : ∀ k ∈ y.1.weights Try.prog 26, k ≤ 140737488351232) :
    ∃ (la na ia ca : Option Addr) (n lc nn nc il ic cn cc : Nat) (ln : Nat → Nat) (lit : Nat → Nat → T) (next : Nat → List Int) (init : List Int) (acc : Nat → List Int), cs = [.slice la n lc, .slice na nn nc, .slice ia il ic, .slice ca cn cc] ∧ AutAt w la na ia ca n nn il cn ln lit next init acc ∧ RoomP n nn il cn ln next acc := by
  obtain ⟨xs, m, _, hx, hlen, hxl, hf⟩ := DataW.trod_struct Try.underlying26 h
  rw [show Try.prog.cellsOf 26 = 4 from by kernel_rfl] at hlen
  obtain ⟨c0, c1, c2, c3, rfl⟩ := list4 cs hlen
  have h0 := hf 0 _ rfl
  have h1 := hf 1 _ rfl
  have h2 := hf 2 _ rfl
  have h3 := hf 3 _ rfl
  rw [List.getElem?_eq_getElem (by rw [hxl]; decide)] at h0 h1 h2 h3
  have hwx : ∀ (i : Nat) (hi : i < xs.length) (ft : TypeId), ([22, 23, 24, 23] : List TypeId)[i]? = some ft → ∀ k ∈ (xs[i]).1.weights Try.prog ft, k ≤ 140737488351232 := by
    intro i hi ft hft k hk
    refine hw k ?_
    rw [hx]
    have hu : Try.prog.underlying 26 = _ := Try.underlying26
    simp only [DataW.weights, hu]
    exact DataW.weights_mem_each (j := i) (by exact hft) (by rw [List.getElem?_map, List.getElem?_eq_getElem hi]; rfl) k hk
  have g0 : DataW.trod enc Try.prog w base spare held m 22 [c0] = some (xs[0]'(by rw [hxl]; decide)) := by
    have g := h0
    rw [show ∀ f : Field, Try.prog.cellsOf f.type = Try.prog.cellsOf f.type from fun _ => rfl] at g
    exact g
  have g1 : DataW.trod enc Try.prog w base spare held m 23 [c1] = some (xs[1]'(by rw [hxl]; decide)) := h1
  have g2 : DataW.trod enc Try.prog w base spare held m 24 [c2] = some (xs[2]'(by rw [hxl]; decide)) := h2
  have g3 : DataW.trod enc Try.prog w base spare held m 23 [c3] = some (xs[3]'(by rw [hxl]; decide)) := h3
  obtain ⟨la, n, lc, ln, lit, e0, m0, r0, A0, B0⟩ := lits_trod_w g0 (hwx 0 _ _ rfl)
  obtain ⟨na, nn, nc, next, e1, m1, r1, A1, B1⟩ := word_trod_w Try.underlying23 Try.underlying24 Try.underlying3 (by kernel_rfl) (by kernel_rfl) (of_decide_eq_true (by kernel_rfl)) (of_decide_eq_true (by kernel_rfl)) g1 (hwx 1 _ _ rfl)
  obtain ⟨ia, il, ic, init, e2, A2, r2⟩ := ints_trod_w Try.underlying24 Try.underlying3 (by kernel_rfl) (of_decide_eq_true (by kernel_rfl)) g2 (hwx 2 _ _ rfl)
  obtain ⟨ca, cn, cc, acc, e3, m3, r3, A3, B3⟩ := word_trod_w Try.underlying23 Try.underlying24 Try.underlying3 (by kernel_rfl) (by kernel_rfl) (of_decide_eq_true (by kernel_rfl)) (of_decide_eq_true (by kernel_rfl)) g3 (hwx 3 _ _ rfl)
  cases e0
  cases e1
  cases e2
  cases e3
  exact ⟨la, na, ia, ca, n, lc, nn, nc, il, ic, cn, cc, ln, lit, next, init, acc, rfl, ⟨A0, A1, A2, A3, m0, m1, m3⟩, ⟨r2, r3, r1, r0, B1, B3, B0⟩⟩
theorem aut_arg {v : Value} {d : DataW H} {p : List MemPlace} (hv : Value.okWide Try.prog w r b0 26 v) (h : DataW.Trod enc Try.prog w base spare held 26 v d p) (hw : ∀ k ∈ d.weights Try.prog 26, k ≤ 140737488351232) :
    ∃ (la na ia ca : Option Addr) (n lc nn nc il ic cn cc : Nat) (ln : Nat → Nat) (lit : Nat → Nat → T) (next : Nat → List Int) (init : List Int) (acc : Nat → List Int), v = .agg #[.slice la n lc, .slice na nn nc, .slice ia il ic, .slice ca cn cc] ∧ AutAt w la na ia ca n nn il cn ln lit next init acc ∧ RoomP n nn il cn ln next acc := by
  obtain ⟨cs, rfl, hz⟩ := okWide_struct Try.underlying26 hv
  obtain ⟨fuel, hf⟩ := h
  obtain ⟨la, na, ia, ca, n, lc, nn, nc, il, ic, cn, cc, ln, lit, next, init, acc, hcs, hA, hR⟩ := aut_trod hf hw
  refine ⟨la, na, ia, ca, n, lc, nn, nc, il, ic, cn, cc, ln, lit, next, init, acc, ?_, hA, hR⟩
  have : cs = #[.slice la n lc, .slice na nn nc, .slice ia il ic, .slice ca cn cc] := Array.ext' (show cs.toList = [Value.slice la n lc, .slice na nn nc, .slice ia il ic, .slice ca cn cc] from hcs)
  rw [this]
end
end Go.Proofs.Ytpabnpgbclfcfaa
