/- Trees of expressions: what lies in memory, what comes in. -/
import Derived.Test.YtpabnpgbclfcfaaArgs
import Derived.Test.YtpabnpgbclfcfaaOwn
import Derived.Test.YtpabnpgbclfcfaaFrame
import Derived.Deep.Slices
namespace Go.Proofs.Ytpabnpgbclfcfaa
open Go.RowKit Go.ChangeShapes Go.WideShapes Go.ChangeAt
set_option linter.unusedVariables false
set_option linter.unusedSimpArgs false
/-- A tree: what it is, a number, its place in the text, and its parts. -/
inductive T where
  | nil
  | node (op n pl : Int) (len : Nat) (sub : Nat → T)
/-- A tree lies in memory. -/
def TreeAt (w : World) : T → Value → Prop
  | .nil, _ => False
  | .node op n pl len sub, v => ∃ (a : Option Addr) (cap : Nat), v = .agg #[.int .i64 op, .int .i64 n, .int .i64 pl, .slice a len cap] ∧ (-9223372036854775808 ≤ op ∧ op ≤ 9223372036854775807) ∧ (-9223372036854775808 ≤ n ∧ n ≤ 9223372036854775807) ∧ (-9223372036854775808 ≤ pl ∧ pl ≤ 9223372036854775807) ∧ len ≤ 9223372036854775807 ∧ (a = none → len = 0 ∧ cap = 0) ∧
      (len = 0 ∨ ∃ b off, a = some ⟨b, off, none⟩ ∧ b < w.heap.size ∧ ∀ i, i < len → ∃ (o' n' p' : Int) (a' : Option Addr) (l' c' : Nat),
        w.cell? ⟨b, off + i * 4, none⟩ = some (.int .i64 o') ∧ w.cell? ⟨b, off + i * 4 + 1, none⟩ = some (.int .i64 n') ∧ w.cell? ⟨b, off + i * 4 + 2, none⟩ = some (.int .i64 p') ∧ w.cell? ⟨b, off + i * 4 + 3, none⟩ = some (.slice a' l' c') ∧ TreeAt w (sub i) (.agg #[.int .i64 o', .int .i64 n', .int .i64 p', .slice a' l' c']))
theorem TreeAt.mono {w w' : World} (hb : Below w.heap.size w w') : ∀ {t : T} {v : Value}, TreeAt w t v → TreeAt w' t v := by
  intro t
  induction t with
  | nil => exact fun h => h.elim
  | node op n pl len sub ih =>
    rintro v ⟨a, cap, h1, h2, h3, h4, h5, h6, h7⟩
    refine ⟨a, cap, h1, h2, h3, h4, h5, h6, ?_⟩
    rcases h7 with h0 | ⟨b, off, ha, hlt, hi⟩
    · exact .inl h0
    · refine .inr ⟨b, off, ha, Nat.lt_of_lt_of_le hlt hb.size, fun i hil => ?_⟩
      obtain ⟨o', n', p', a', l', c', g0, g1, g2, g3, g4⟩ := hi i hil
      exact ⟨o', n', p', a', l', c', (hb.cell (p := ⟨b, _, none⟩) hlt).trans g0, (hb.cell (p := ⟨b, _, none⟩) hlt).trans g1, (hb.cell (p := ⟨b, _, none⟩) hlt).trans g2, (hb.cell (p := ⟨b, _, none⟩) hlt).trans g3, ih i g4⟩
/-- A row of a tree's parts. -/
def PartsAt (w : World) (a : Option Addr) (len : Nat) (sub : Nat → T) : Prop :=
  len = 0 ∨ ∃ b off, a = some ⟨b, off, none⟩ ∧ b < w.heap.size ∧ ∀ i, i < len → ∃ (o' n' p' : Int) (a' : Option Addr) (l' c' : Nat),
        w.cell? ⟨b, off + i * 4, none⟩ = some (.int .i64 o') ∧ w.cell? ⟨b, off + i * 4 + 1, none⟩ = some (.int .i64 n') ∧ w.cell? ⟨b, off + i * 4 + 2, none⟩ = some (.int .i64 p') ∧ w.cell? ⟨b, off + i * 4 + 3, none⟩ = some (.slice a' l' c') ∧ TreeAt w (sub i) (.agg #[.int .i64 o', .int .i64 n', .int .i64 p', .slice a' l' c'])
section
variable {H : Type} {enc : TypeId × Value → H} {P : Program} {w : World} {base b0 : Nat} {spare : Nat → Bool} {held : Bool} {r : Reach}
theorem elems_trod_lt {t e : TypeId} {c fuel : Nat} {cs0 : List Value} {y : DataW H × List MemPlace} (ht : P.underlying t = some (.slice e)) (hc : P.cellsOf e = c) (c0 : 0 < c)
    (h : DataW.trod enc P w base spare held fuel t cs0 = some y) :
    ∃ (a : Option Addr) (len cap : Nat), cs0 = [.slice a len cap] ∧ (a = none → len = 0 ∧ cap = 0) ∧ len ≤ 9223372036854775807 ∧ (len = 0 ∨ ∃ b off, a = some ⟨b, off, none⟩ ∧ b < w.heap.size ∧
      ∀ i, i < len → ∃ (cs : List Value) (n : Nat) (z : DataW H × List MemPlace), n < fuel ∧ cs.length = c ∧ (∀ j, j < c → w.cell? ⟨b, off + i * c + j, none⟩ = cs[j]?) ∧ DataW.trod enc P w base spare held n e cs = some z) := by
  rcases DataW.trod_slice ht h with ⟨hcs, _⟩ | ⟨x, len, cap, elems, rest, n, hfu, hcs, _, _, hl, hm, hel, hi, _, _⟩
  · exact ⟨none, 0, 0, hcs, fun _ => ⟨rfl, rfl⟩, by omega, .inl rfl⟩
  · unfold maxLen at hm
    refine ⟨some x, len, cap, hcs, nofun, by omega, ?_⟩
    by_cases h00 : len = 0
    · exact .inl h00
    have hi2 : ∀ i, i < len → ∃ cs' z, w.cells? base (x.add (i * P.cellsOf e)) (P.cellsOf e) = some cs' ∧ DataW.trod enc P w base spare held n e cs' = some z := by
      intro i hil
      have h1 := hi i hil
      rw [List.getElem?_eq_getElem (by omega)] at h1
      obtain ⟨cs', h2, h3⟩ := Option.bind_eq_some_iff.1 h1
      exact ⟨cs', _, h2, h3⟩
    obtain ⟨b, off, spot⟩ := x
    have hspot : spot = none := by
      obtain ⟨cs', z, hcs', ht'⟩ := hi2 0 (by omega)
      rw [hc] at hcs'
      obtain ⟨_, hlen, hat⟩ := World.cells?_some hcs'
      have := hat 0 c0
      rw [List.getElem?_eq_getElem (by omega)] at this
      simp [Addr.add] at this
      simpa using World.cell?_spot this
    subst hspot
    have key : ∀ i, i < len → ∃ (cs : List Value) (n : Nat) (z : DataW H × List MemPlace), n < fuel ∧ cs.length = c ∧ (∀ j, j < c → w.cell? ⟨b, off + i * c + j, none⟩ = cs[j]?) ∧ DataW.trod enc P w base spare held n e cs = some z := by
      intro i hil
      obtain ⟨cs', z, hcs', ht'⟩ := hi2 i (by omega)
      rw [hc] at hcs'
      obtain ⟨_, hlen, hat⟩ := World.cells?_some hcs'
      refine ⟨cs', n, z, by omega, hlen, fun j hj => ?_, ht'⟩
      have := hat j hj
      rwa [Addr.add_lit, Addr.add_lit] at this
    refine .inr ⟨b, off, rfl, ?_, key⟩
    obtain ⟨cs, _, _, _, hlen, hat, _⟩ := key 0 (by omega)
    have := hat 0 c0
    rw [List.getElem?_eq_getElem (by omega)] at this
    exact World.block_lt_of_cell? w _ this
theorem tree_trod {e sl : TypeId} {fs : Array Field} {f0 f1 f2 f3 : Field} (he : P.underlying e = some (.struct fs)) (h0 : fs[0]? = some f0) (h1 : fs[1]? = some f1) (h2 : fs[2]? = some f2) (h3 : fs[3]? = some f3) (hsz : fs.size = 4)
    (o0 : f0.offset = 0) (o1 : f1.offset = 1) (o2 : f2.offset = 2) (o3 : f3.offset = 3) (t0 : P.underlying f0.type = some (.int .i64)) (t1 : P.underlying f1.type = some (.int .i64)) (t2 : P.underlying f2.type = some (.int .i64)) (t3 : P.underlying f3.type = some (.slice e))
    (k0 : P.cellsOf f0.type = 1) (k1 : P.cellsOf f1.type = 1) (k2 : P.cellsOf f2.type = 1) (k3 : P.cellsOf f3.type = 1) (hc : P.cellsOf e = 4) :
    ∀ (fuel : Nat) (cs : List Value) (y : DataW H × List MemPlace), DataW.trod enc P w base spare held fuel e cs = some y → ∃ (t : T) (op n pl : Int) (a : Option Addr) (l c : Nat), cs = [.int .i64 op, .int .i64 n, .int .i64 pl, .slice a l c] ∧ TreeAt w t (.agg #[.int .i64 op, .int .i64 n, .int .i64 pl, .slice a l c]) := by
  intro fuel
  induction fuel using Nat.strongRecOn with
  | ind fuel ih =>
    intro cs y h
    obtain ⟨xs, m, hm, _, hlen, hxs, hf⟩ := DataW.trod_struct he h
    rw [hc] at hlen
    obtain ⟨c0, c1, c2, c3, rfl⟩ : ∃ c0 c1 c2 c3, cs = [c0, c1, c2, c3] := by
      rcases cs with _ | ⟨a, _ | ⟨b, _ | ⟨c, _ | ⟨d, _ | ⟨e, l⟩⟩⟩⟩⟩ <;> simp at hlen
      exact ⟨a, b, c, d, rfl⟩
    have g0 := hf 0 f0 h0
    have g1 := hf 1 f1 h1
    have g2 := hf 2 f2 h2
    have g3 := hf 3 f3 h3
    rw [o0, k0, List.getElem?_eq_getElem (by omega)] at g0
    rw [o1, k1, List.getElem?_eq_getElem (by omega)] at g1
    rw [o2, k2, List.getElem?_eq_getElem (by omega)] at g2
    rw [o3, k3, List.getElem?_eq_getElem (by omega)] at g3
    obtain ⟨op, p1, p2, rfl⟩ := int_trod t0 (c := c0) g0
    obtain ⟨n, q1, q2, rfl⟩ := int_trod t1 (c := c1) g1
    obtain ⟨pl, r1, r2, rfl⟩ := int_trod t2 (c := c2) g2
    obtain ⟨a, len, cap, hsl, hn, hl, hat⟩ := elems_trod_lt (c := 4) (cs0 := [c3]) t3 hc (by decide) g3
    obtain rfl : c3 = .slice a len cap := by simpa using hsl
    have hsub : ∃ sub : Nat → T, len = 0 ∨ ∃ b off, a = some ⟨b, off, none⟩ ∧ b < w.heap.size ∧ ∀ i, i < len → ∃ (o' n' p' : Int) (a' : Option Addr) (l' c' : Nat),
        w.cell? ⟨b, off + i * 4, none⟩ = some (.int .i64 o') ∧ w.cell? ⟨b, off + i * 4 + 1, none⟩ = some (.int .i64 n') ∧ w.cell? ⟨b, off + i * 4 + 2, none⟩ = some (.int .i64 p') ∧ w.cell? ⟨b, off + i * 4 + 3, none⟩ = some (.slice a' l' c') ∧ TreeAt w (sub i) (.agg #[.int .i64 o', .int .i64 n', .int .i64 p', .slice a' l' c']) := by
      rcases hat with h0' | ⟨b, off, rfl, hlt, hi⟩
      · exact ⟨fun _ => .nil, .inl h0'⟩
      · have key : ∀ i, ∃ t : T, i < len → ∃ (o' n' p' : Int) (a' : Option Addr) (l' c' : Nat),
            w.cell? ⟨b, off + i * 4, none⟩ = some (.int .i64 o') ∧ w.cell? ⟨b, off + i * 4 + 1, none⟩ = some (.int .i64 n') ∧ w.cell? ⟨b, off + i * 4 + 2, none⟩ = some (.int .i64 p') ∧ w.cell? ⟨b, off + i * 4 + 3, none⟩ = some (.slice a' l' c') ∧ TreeAt w t (.agg #[.int .i64 o', .int .i64 n', .int .i64 p', .slice a' l' c']) := by
          intro i
          by_cases hil : i < len
          · obtain ⟨cs, k, z, hk, hcl, hcell, htr⟩ := hi i hil
            obtain ⟨t, o', n', p', a', l', c', rfl, ht⟩ := ih k (by omega) cs z htr
            exact ⟨t, fun _ => ⟨o', n', p', a', l', c', hcell 0 (by decide), hcell 1 (by decide), hcell 2 (by decide), hcell 3 (by decide), ht⟩⟩
          · exact ⟨.nil, fun hh => absurd hh hil⟩
        obtain ⟨f, hf⟩ := Classical.axiomOfChoice key
        exact ⟨f, .inr ⟨b, off, rfl, hlt, hf⟩⟩
    obtain ⟨sub, hsub⟩ := hsub
    exact ⟨.node op n pl len sub, op, n, pl, a, len, cap, rfl, a, cap, rfl, ⟨p1, p2⟩, ⟨q1, q2⟩, ⟨r1, r2⟩, hl, hn, hsub⟩
end
end Go.Proofs.Ytpabnpgbclfcfaa
