/- Arguments that came in: rows of acts (a kind, a key's bytes, a flag); few of them. -/
import Derived.Test.YtbbdeefnooaacaaArgs
import Derived.Test.YtbbdeefnooaacaaKeys
import Derived.Test.YtbbdeefnooaacaaFrame
import Derived.Deep.Slices
namespace Go.Proofs.Ytbbdeefnooaacaa
open Go.RowKit Go.ChangeShapes Go.WideShapes Go.ChangeAt
set_option linter.unusedVariables false
set_option linter.unusedSimpArgs false
/-- An act: its kind, its key and where it lies, its flag. -/
structure ActD where
  kd : Nat
  ka : Option Addr
  kl : Nat
  kc : Nat
  key : List Nat
  fl : Int
/-- An act lies at a place. -/
structure ActAt (w : World) (b o : Nat) (x : ActD) : Prop where
  kd256 : x.kd < 256
  fl1 : -9223372036854775808 ≤ x.fl
  fl2 : x.fl ≤ 9223372036854775807
  c0 : w.cell? ⟨b, o, none⟩ = some (.int .u8 (x.kd : Nat))
  c1 : w.cell? ⟨b, o + 1, none⟩ = some (.slice x.ka x.kl x.kc)
  c2 : w.cell? ⟨b, o + 2, none⟩ = some (.int .i64 x.fl)
  key : BytesAt w x.ka x.kl x.kc x.key
theorem ActAt.mono {w w' : World} {b o : Nat} {x : ActD} (h : ActAt w b o x) (hlt : b < w.heap.size) (hb : Below w.heap.size w w') : ActAt w' b o x :=
  ⟨h.1, h.2, h.3, (hb.cell (p := ⟨b, o, none⟩) hlt).trans h.c0, (hb.cell (p := ⟨b, o + 1, none⟩) hlt).trans h.c1, (hb.cell (p := ⟨b, o + 2, none⟩) hlt).trans h.c2, h.key.mono hb⟩
/-- A row of acts. -/
structure ActsAt (w : World) (a : Option Addr) (len : Nat) (f : Nat → ActD) : Prop where
  small : len ≤ 9223372036854775807
  at_ : len = 0 ∨ ∃ b off, a = some ⟨b, off, none⟩ ∧ b < w.heap.size ∧ ∀ i, i < len → ActAt w b (off + i * 3) (f i)
theorem ActsAt.mono {w w' : World} {a : Option Addr} {len : Nat} {f : Nat → ActD} (h : ActsAt w a len f) (hb : Below w.heap.size w w') : ActsAt w' a len f := by
  refine ⟨h.1, ?_⟩
  rcases h.2 with h0 | ⟨b, off, ha, hlt, hi⟩
  · exact .inl h0
  · exact .inr ⟨b, off, ha, Nat.lt_of_lt_of_le hlt hb.size, fun i hil => (hi i hil).mono hlt hb⟩
section
variable {H : Type} {enc : TypeId × Value → H} {P : Program} {w : World} {base b0 : Nat} {spare : Nat → Bool} {held : Bool} {r : Reach}
theorem acts_trod {t e bt u8 : TypeId} {fs : Array Field} {f0 f1 f2 : Field} {fuel : Nat} {v : Value} {y : DataW H × List MemPlace} (ht : P.underlying t = some (.slice e)) (he : P.underlying e = some (.struct fs)) (h0 : fs[0]? = some f0) (h1 : fs[1]? = some f1) (h2 : fs[2]? = some f2)
    (o0 : f0.offset = 0) (o1 : f1.offset = 1) (o2 : f2.offset = 2) (t0 : P.underlying f0.type = some (.int .u8)) (t1 : P.underlying f1.type = some (.slice u8)) (tu : P.underlying u8 = some (.int .u8)) (cu : P.cellsOf u8 = 1) (t2 : P.underlying f2.type = some (.int .i64))
    (k0 : P.cellsOf f0.type = 1) (k1 : P.cellsOf f1.type = 1) (k2 : P.cellsOf f2.type = 1) (hc : P.cellsOf e = 3)
    (h : DataW.trod enc P w base spare held fuel t [v] = some y) : ∃ (a : Option Addr) (len cap : Nat) (f : Nat → ActD), v = .slice a len cap ∧ ActsAt w a len f := by
  obtain ⟨a, len, cap, rfl, _, hm, hat⟩ := elems_trod ht hc (by decide) h
  rcases hat with h0' | ⟨b, off, rfl, hlt, hi⟩
  · exact ⟨a, len, cap, fun _ => ⟨0, none, 0, 0, [], 0⟩, rfl, hm, .inl h0'⟩
  have key : ∀ i, i < len → ∃ x : ActD, ActAt w b (off + i * 3) x := by
    intro i hil
    obtain ⟨cs, n, z, hlen, hcell, htr⟩ := hi i hil
    obtain ⟨c0, c1, c2, rfl⟩ := list3 cs hlen
    obtain ⟨n', hf⟩ := field_trod he htr
    obtain ⟨y0, g0⟩ := hf 0 f0 h0
    obtain ⟨y1, g1⟩ := hf 1 f1 h1
    obtain ⟨y2, g2⟩ := hf 2 f2 h2
    rw [o0, k0] at g0
    rw [o1, k1] at g1
    rw [o2, k2] at g2
    obtain ⟨kd, hkd, rfl⟩ := nat_trod t0 256 wf_u8 (c := c0) g0
    obtain ⟨ka, kl, kc, l, rfl, hk⟩ := bytes_trod t1 tu cu (c := c1) g1
    obtain ⟨fl, b1, b2, rfl⟩ := int_trod t2 (c := c2) g2
    exact ⟨⟨kd, ka, kl, kc, l, fl⟩, hkd, b1, b2, hcell 0 (by decide), hcell 1 (by decide), hcell 2 (by decide), hk⟩
  obtain ⟨f, hf⟩ := Classical.axiomOfChoice (r := fun (i : Nat) (x : ActD) => i < len → ActAt w b (off + i * 3) x) (fun i => by
    by_cases hil : i < len
    · obtain ⟨x, hx⟩ := key i hil
      exact ⟨x, fun _ => hx⟩
    · exact ⟨⟨0, none, 0, 0, [], 0⟩, fun hh => absurd hh hil⟩)
  exact ⟨_, len, cap, f, rfl, hm, .inr ⟨b, off, rfl, hlt, fun i hil => hf i hil⟩⟩
theorem acts_arg {t e bt u8 : TypeId} {fs : Array Field} {f0 f1 f2 : Field} {v : Value} {d : DataW H} {p : List MemPlace} (ht : P.underlying t = some (.slice e)) (he : P.underlying e = some (.struct fs)) (h0 : fs[0]? = some f0) (h1 : fs[1]? = some f1) (h2 : fs[2]? = some f2)
    (o0 : f0.offset = 0) (o1 : f1.offset = 1) (o2 : f2.offset = 2) (t0 : P.underlying f0.type = some (.int .u8)) (t1 : P.underlying f1.type = some (.slice u8)) (tu : P.underlying u8 = some (.int .u8)) (cu : P.cellsOf u8 = 1) (t2 : P.underlying f2.type = some (.int .i64))
    (k0 : P.cellsOf f0.type = 1) (k1 : P.cellsOf f1.type = 1) (k2 : P.cellsOf f2.type = 1) (hc : P.cellsOf e = 3) (hv : Value.okWide P w r b0 t v)
    (h : DataW.Trod enc P w base spare held t v d p) : ∃ (a : Option Addr) (len cap : Nat) (f : Nat → ActD), v = .slice a len cap ∧ ActsAt w a len f := by
  obtain ⟨a, n, c, rfl⟩ := okWide_slice ht hv
  obtain ⟨fuel, hf⟩ := h
  exact acts_trod (bt := 0) ht he h0 h1 h2 o0 o1 o2 t0 t1 tu cu t2 k0 k1 k2 hc (v := .slice a n c) hf
end
def FewA (w : World) (len : Nat) (f : Nat → ActD) (most : Int) (e : Ending) (w' : World) : Prop := (∃ b : Bool, e = .returned (.bool b) ∧ (b = true → (len : Int) ≤ most ∧ ∀ i, i < len → (f i).kl ≤ 200)) ∧ w = w'
end Go.Proofs.Ytbbdeefnooaacaa
