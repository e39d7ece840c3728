/- An automaton that came in, and how long its rows may be. -/
import Derived.Test.YtpabnpgbclfcfaaAutEF
import Derived.SizedLaws
namespace Go.Proofs.Ytpabnpgbclfcfaa
open Go.RowKit Go.ChangeShapes Go.WideShapes Go.ChangeAt
set_option linter.unusedVariables false
set_option linter.unusedSimpArgs false
section
variable {H : Type} {enc : TypeId × Value → H} {P : Program} {w : World} {base b0 : Nat} {spare : Nat → Bool} {held : Bool} {r : Reach}
theorem weightsAll_in {e : TypeId} : ∀ {l : List (DataW H)} {d : DataW H}, d ∈ l → ∀ n ∈ d.weights P e, n ∈ DataW.weightsAll P e l
  | x :: l, d, hd, n, hn => by
    simp only [DataW.weightsAll, List.mem_append]
    rcases List.mem_cons.1 hd with rfl | h
    · exact .inl hn
    · exact .inr (weightsAll_in h n hn)
theorem elems_trod_w {t e : TypeId} {c fuel R : Nat} {cs0 : List Value} {y : DataW H × List MemPlace} (ht : P.underlying t = some (.slice e)) (hc : P.cellsOf e = c) (c0 : 0 < c) (hby : 0 < P.bytesOf e)
    (h : DataW.trod enc P w base spare held fuel t cs0 = some y) (hw : ∀ k ∈ y.1.weights P t, k ≤ R) :
    ∃ (a : Option Addr) (len cap : Nat), cs0 = [.slice a len cap] ∧ (a = none → len = 0 ∧ cap = 0) ∧ len ≤ 9223372036854775807 ∧ len ≤ R ∧ (len = 0 ∨ ∃ b off, a = some ⟨b, off, none⟩ ∧ b < w.heap.size ∧
      ∀ i, i < len → ∃ (cs : List Value) (n : Nat) (z : DataW H × List MemPlace), cs.length = c ∧ (∀ j, j < c → w.cell? ⟨b, off + i * c + j, none⟩ = cs[j]?) ∧ DataW.trod enc P w base spare held n e cs = some z ∧ ∀ k ∈ z.1.weights P e, k ≤ R) := by
  rcases DataW.trod_slice ht h with ⟨hcs, _⟩ | ⟨x, len, cap, elems, rest, n, hfu, hcs, hy, _, hl, hm, hel, hi, _, _⟩
  · exact ⟨none, 0, 0, hcs, fun _ => ⟨rfl, rfl⟩, by omega, by omega, .inl rfl⟩
  · unfold maxLen at hm
    have hR : len ≤ R := by
      have h1 := hw (((elems.map (·.1)).length + (rest.map (·.1)).length) * P.bytesOf e) (by rw [hy]; simp [DataW.weights, ht])
      rw [List.length_map, List.length_map, hel] at h1
      exact Nat.le_trans (Nat.le_trans (by omega) (Nat.le_mul_of_pos_right (len + rest.length) hby)) h1
    refine ⟨some x, len, cap, hcs, nofun, by omega, hR, ?_⟩
    by_cases h00 : len = 0
    · exact .inl h00
    have hi2 : ∀ i (hil : i < len), ∃ cs' z, w.cells? base (x.add (i * P.cellsOf e)) (P.cellsOf e) = some cs' ∧ DataW.trod enc P w base spare held n e cs' = some z ∧ ∀ k ∈ z.1.weights P e, k ≤ R := by
      intro i hil
      have h1 := hi i hil
      rw [List.getElem?_eq_getElem (by omega)] at h1
      obtain ⟨cs', h2, h3⟩ := Option.bind_eq_some_iff.1 h1
      refine ⟨cs', _, h2, h3, fun k hk => hw k ?_⟩
      rw [hy]
      simp only [DataW.weights, ht, List.mem_cons, List.mem_append]
      exact .inr (.inl (weightsAll_in (List.mem_map.2 ⟨_, List.getElem_mem _, rfl⟩) k hk))
    obtain ⟨b, off, spot⟩ := x
    have hspot : spot = none := by
      obtain ⟨cs', z, hcs', ht', _⟩ := hi2 0 (by omega)
      rw [hc] at hcs'
      obtain ⟨_, hlen, hat⟩ := World.cells?_some hcs'
      have := hat 0 c0
      rw [List.getElem?_eq_getElem (by omega)] at this
      simp [Addr.add] at this
      simpa using World.cell?_spot this
    subst hspot
    have key : ∀ i, i < len → ∃ (cs : List Value) (n : Nat) (z : DataW H × List MemPlace), cs.length = c ∧ (∀ j, j < c → w.cell? ⟨b, off + i * c + j, none⟩ = cs[j]?) ∧ DataW.trod enc P w base spare held n e cs = some z ∧ ∀ k ∈ z.1.weights P e, k ≤ R := by
      intro i hil
      obtain ⟨cs', z, hcs', ht', hk'⟩ := hi2 i (by omega)
      rw [hc] at hcs'
      obtain ⟨_, hlen, hat⟩ := World.cells?_some hcs'
      refine ⟨cs', n, z, hlen, fun j hj => ?_, ht', hk'⟩
      have := hat j hj
      rwa [Addr.add_lit, Addr.add_lit] at this
    refine .inr ⟨b, off, rfl, ?_, key⟩
    obtain ⟨cs, _, _, hlen, hat, _, _⟩ := key 0 (by omega)
    have := hat 0 c0
    rw [List.getElem?_eq_getElem (by omega)] at this
    exact World.block_lt_of_cell? w _ this
theorem ints_trod_w {t e : TypeId} {fuel R : Nat} {cs0 : List Value} {y : DataW H × List MemPlace} (ht : P.underlying t = some (.slice e)) (he : P.underlying e = some (.int .i64)) (hc : P.cellsOf e = 1) (hby : 0 < P.bytesOf e)
    (h : DataW.trod enc P w base spare held fuel t cs0 = some y) (hw : ∀ k ∈ y.1.weights P t, k ≤ R) : ∃ (a : Option Addr) (len cap : Nat) (l : List Int), cs0 = [.slice a len cap] ∧ IntsAt w a len l ∧ len ≤ R := by
  obtain ⟨a, len, cap, rfl, _, _, hR, _⟩ := elems_trod_w ht hc (by decide) hby h hw
  obtain ⟨a2, len2, cap2, zs, he2, hl, hs, _, _, hcc⟩ := ints_trod ht he hc (c := .slice a len cap) h
  cases he2
  exact ⟨a, len, cap, zs, rfl, ⟨hl, hs, hcc⟩, hR⟩
theorem word_trod_w {t e i : TypeId} {fuel R : Nat} {cs0 : List Value} {y : DataW H × List MemPlace} (ht : P.underlying t = some (.slice e)) (he : P.underlying e = some (.slice i)) (hi : P.underlying i = some (.int .i64)) (ke : P.cellsOf e = 1) (ki : P.cellsOf i = 1) (be : 0 < P.bytesOf e) (bi : 0 < P.bytesOf i)
    (h : DataW.trod enc P w base spare held fuel t cs0 = some y) (hw : ∀ k ∈ y.1.weights P t, k ≤ R) : ∃ (a : Option Addr) (n c : Nat) (row : Nat → List Int), cs0 = [.slice a n c] ∧ n ≤ 9223372036854775807 ∧ n ≤ R ∧ WordAt w a n row ∧ ∀ i, i < n → (row i).length ≤ R := by
  obtain ⟨a, len, cap, rfl, _, hm, hR, hat⟩ := elems_trod_w ht ke (by decide) be h hw
  rcases hat with h0' | ⟨b, off, rfl, hlt, hi2⟩
  · exact ⟨a, len, cap, fun _ => [], rfl, hm, hR, .inl h0', fun i hi => by omega⟩
  have key : ∀ j, ∃ l : List Int, j < len → (∃ (ra : Option Addr) (rl rc : Nat), w.cell? ⟨b, off + j, none⟩ = some (.slice ra rl rc) ∧ IntsAt w ra rl l) ∧ l.length ≤ R := by
    intro j
    by_cases hj : j < len
    · obtain ⟨cs, n, z, hlen, hcell, htr, hk⟩ := hi2 j hj
      obtain ⟨ra, rl, rc, l, rfl, hl, hr⟩ := ints_trod_w he hi ki bi htr hk
      have := hcell 0 (by decide)
      rw [Nat.mul_one, Nat.add_zero] at this
      exact ⟨l, fun _ => ⟨⟨ra, rl, rc, this, hl⟩, by rw [hl.len_eq]; exact hr⟩⟩
    · exact ⟨[], fun hh => absurd hh hj⟩
  obtain ⟨f, hf⟩ := Classical.axiomOfChoice key
  exact ⟨_, len, cap, f, rfl, hm, hR, .inr ⟨b, off, rfl, hlt, fun j hj => (hf j hj).1⟩, fun j hj => (hf j hj).2⟩
end
end Go.Proofs.Ytpabnpgbclfcfaa
