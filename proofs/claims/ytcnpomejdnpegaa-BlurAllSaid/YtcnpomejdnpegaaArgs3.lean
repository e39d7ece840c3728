/- Arguments that came in: rows of acts (a kind, a key's bytes, a flag). -/
import Derived.Test.YtcnpomejdnpegaaArgs
import Derived.Test.YtcnpomejdnpegaaBlur1
import Derived.Deep.Slices
namespace Go.Proofs.Ytcnpomejdnpegaa
open Go.RowKit Go.ChangeShapes Go.WideShapes Go.ChangeAt
set_option linter.unusedVariables false
section
variable {H : Type} {enc : TypeId × Value → H} {P : Program} {w : World} {base b0 : Nat} {spare : Nat → Bool} {held : Bool} {r : Reach}
/-- A row whose elements have c cells each. -/
theorem elems_trod {t e : TypeId} {c fuel : Nat} {v : Value} {y : DataW H × List MemPlace} (ht : P.underlying t = some (.slice e)) (hc : P.cellsOf e = c) (c0 : 0 < c)
    (h : DataW.trod enc P w base spare held fuel t [v] = some y) :
    ∃ (a : Option Addr) (len cap : Nat), v = .slice a len cap ∧ (a = none → len = 0 ∧ cap = 0) ∧ len ≤ 9223372036854775807 ∧ (len = 0 ∨ ∃ b off, a = some ⟨b, off, none⟩ ∧ b < w.heap.size ∧
      ∀ i, i < len → ∃ (cs : List Value) (n : Nat) (z : DataW H × List MemPlace), cs.length = c ∧ (∀ j, j < c → w.cell? ⟨b, off + i * c + j, none⟩ = cs[j]?) ∧ DataW.trod enc P w base spare held n e cs = some z) := by
  rcases Deep.open_slice ht h with ⟨hcs, _⟩ | ⟨x, len, cap, m, n, D, Pl, hcs, _, hl, hm, hmm, _, hi⟩
  · simp at hcs
    exact ⟨none, 0, 0, hcs, fun _ => ⟨rfl, rfl⟩, by omega, .inl rfl⟩
  · simp at hcs
    have hml : len ≤ m := by rw [hmm]; split <;> omega
    unfold maxLen at hm
    refine ⟨some x, len, cap, hcs, nofun, by omega, ?_⟩
    by_cases h00 : len = 0
    · exact .inl h00
    obtain ⟨b, off, spot⟩ := x
    have hspot : spot = none := by
      obtain ⟨cs', hcs', ht'⟩ := hi 0 (by omega)
      rw [hc] at hcs'
      obtain ⟨_, hlen, hat⟩ := World.cells?_some hcs'
      have := hat 0 c0
      rw [List.getElem?_eq_getElem (by omega)] at this
      simp [Addr.add] at this
      simpa using World.cell?_spot this
    subst hspot
    have key : ∀ i, i < len → ∃ (cs : List Value) (n : Nat) (z : DataW H × List MemPlace), cs.length = c ∧ (∀ j, j < c → w.cell? ⟨b, off + i * c + j, none⟩ = cs[j]?) ∧ DataW.trod enc P w base spare held n e cs = some z := by
      intro i hil
      obtain ⟨cs', hcs', ht'⟩ := hi i (by omega)
      rw [hc] at hcs'
      obtain ⟨_, hlen, hat⟩ := World.cells?_some hcs'
      refine ⟨cs', n, _, hlen, fun j hj => ?_, ht'⟩
      have := hat j hj
      rwa [Addr.add_lit, Addr.add_lit] at this
    refine .inr ⟨b, off, rfl, ?_, key⟩
    obtain ⟨cs, _, _, hlen, hat, _⟩ := key 0 (by omega)
    have := hat 0 c0
    rw [List.getElem?_eq_getElem (by omega)] at this
    exact World.block_lt_of_cell? w _ this
end
/-- An act: its kind, its key and where it lies, its flag. -/
structure ActD where
  kd : Nat
  ka : Option Addr
  kl : Nat
  kc : Nat
  key : List Nat
  fl : Int
/-- An act lies at a place. -/
structure ActAt (w : World) (b o : Nat) (x : ActD) : Prop where
  kd256 : x.kd < 256
  fl1 : -9223372036854775808 ≤ x.fl
  fl2 : x.fl ≤ 9223372036854775807
  c0 : w.cell? ⟨b, o, none⟩ = some (.int .u8 (x.kd : Nat))
  c1 : w.cell? ⟨b, o + 1, none⟩ = some (.slice x.ka x.kl x.kc)
  c2 : w.cell? ⟨b, o + 2, none⟩ = some (.int .i64 x.fl)
  key : BytesAt w x.ka x.kl x.kc x.key
theorem ActAt.mono {w w' : World} {b o : Nat} {x : ActD} (h : ActAt w b o x) (hlt : b < w.heap.size) (hb : Below w.heap.size w w') : ActAt w' b o x :=
  ⟨h.1, h.2, h.3, (hb.cell (p := ⟨b, o, none⟩) hlt).trans h.c0, (hb.cell (p := ⟨b, o + 1, none⟩) hlt).trans h.c1, (hb.cell (p := ⟨b, o + 2, none⟩) hlt).trans h.c2, h.key.mono hb⟩
/-- A row of acts. -/
structure ActsAt (w : World) (a : Option Addr) (len : Nat) (f : Nat → ActD) : Prop where
  small : len ≤ 9223372036854775807
  at_ : len = 0 ∨ ∃ b off, a = some ⟨b, off, none⟩ ∧ b < w.heap.size ∧ ∀ i, i < len → ActAt w b (off + i * 3) (f i)
theorem ActsAt.mono {w w' : World} {a : Option Addr} {len : Nat} {f : Nat → ActD} (h : ActsAt w a len f) (hb : Below w.heap.size w w') : ActsAt w' a len f := by
  refine ⟨h.1, ?_⟩
  rcases h.2 with h0 | ⟨b, off, ha, hlt, hi⟩
  · exact .inl h0
  · exact .inr ⟨b, off, ha, Nat.lt_of_lt_of_le hlt hb.size, fun i hil => (hi i hil).mono hlt hb⟩
section
variable {H : Type} {enc : TypeId × Value → H} {P : Program} {w : World} {base b0 : Nat} {spare : Nat → Bool} {held : Bool} {r : Reach}
theorem acts_trod {t e bt u8 : TypeId} {fs : Array Field} {f0 f1 f2 : Field} {fuel : Nat} {v : Value} {y : DataW H × List MemPlace} (ht : P.underlying t = some (.slice e)) (he : P.underlying e = some (.struct fs)) (h0 : fs[0]? = some f0) (h1 : fs[1]? = some f1) (h2 : fs[2]? = some f2)
    (o0 : f0.offset = 0) (o1 : f1.offset = 1) (o2 : f2.offset = 2) (t0 : P.underlying f0.type = some (.int .u8)) (t1 : P.underlying f1.type = some (.slice u8)) (tu : P.underlying u8 = some (.int .u8)) (cu : P.cellsOf u8 = 1) (t2 : P.underlying f2.type = some (.int .i64))
    (k0 : P.cellsOf f0.type = 1) (k1 : P.cellsOf f1.type = 1) (k2 : P.cellsOf f2.type = 1) (hc : P.cellsOf e = 3)
    (h : DataW.trod enc P w base spare held fuel t [v] = some y) : ∃ (a : Option Addr) (len cap : Nat) (f : Nat → ActD), v = .slice a len cap ∧ ActsAt w a len f := by
  obtain ⟨a, len, cap, rfl, _, hm, hat⟩ := elems_trod ht hc (by decide) h
  rcases hat with h0' | ⟨b, off, rfl, hlt, hi⟩
  · exact ⟨a, len, cap, fun _ => ⟨0, none, 0, 0, [], 0⟩, rfl, hm, .inl h0'⟩
  have key : ∀ i, i < len → ∃ x : ActD, ActAt w b (off + i * 3) x := by
    intro i hil
    obtain ⟨cs, n, z, hlen, hcell, htr⟩ := hi i hil
    obtain ⟨c0, c1, c2, rfl⟩ := list3 cs hlen
    obtain ⟨n', hf⟩ := field_trod he htr
    obtain ⟨y0, g0⟩ := hf 0 f0 h0
    obtain ⟨y1, g1⟩ := hf 1 f1 h1
    obtain ⟨y2, g2⟩ := hf 2 f2 h2
    rw [o0, k0] at g0
    rw [o1, k1] at g1
    rw [o2, k2] at g2
    obtain ⟨kd, hkd, rfl⟩ := nat_trod t0 256 wf_u8 (c := c0) g0
    obtain ⟨ka, kl, kc, l, rfl, hk⟩ := bytes_trod t1 tu cu (c := c1) g1
    obtain ⟨fl, b1, b2, rfl⟩ := int_trod t2 (c := c2) g2
    exact ⟨⟨kd, ka, kl, kc, l, fl⟩, hkd, b1, b2, hcell 0 (by decide), hcell 1 (by decide), hcell 2 (by decide), hk⟩
  obtain ⟨f, hf⟩ := Classical.axiomOfChoice (r := fun (i : Nat) (x : ActD) => i < len → ActAt w b (off + i * 3) x) (fun i => by
    by_cases hil : i < len
    · obtain ⟨x, hx⟩ := key i hil
      exact ⟨x, fun _ => hx⟩
    · exact ⟨⟨0, none, 0, 0, [], 0⟩, fun hh => absurd hh hil⟩)
  exact ⟨_, len, cap, f, rfl, hm, .inr ⟨b, off, rfl, hlt, fun i hil => hf i hil⟩⟩
end
end Go.Proofs.Ytcnpomejdnpegaa
