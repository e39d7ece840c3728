/- A map of numbers to truths that the call itself makes. -/
import Derived.Test.YtcnpomejdnpegaaBlurE
import Derived.Maps.OwnSet
namespace Go.Proofs.Ytcnpomejdnpegaa
open Go.RowKit Go.Maps
set_option linter.unusedVariables false

/-- What the map holds. -/
def OnD (D : DataW Unit) (on : List Nat) : Prop := (∀ p : Nat, Maps.has D (.int .i64 (p : Nat)) = decide (p ∈ on) ∧ D.atKey (.int .i64 (p : Nat)) (.lit (.bool false)) = .lit (.bool (decide (p ∈ on)))) ∧ Maps.size D = on.length
def OnMap (w : World) (b n : Nat) (on : List Nat) : Prop := ∃ D : DataW Unit, w.ownsMap Try.prog 3 (plainElem Try.prog 4) b n D ∧ OnD D on
theorem int_law : Keyed Try.prog 3 := int_keyed Try.underlying3
theorem bool_zero (w : World) : (zeroValue 4).run Try.prog w = .ok (.bool false) w := by kernel_rfl
theorem OnMap.made (w : World) : OnMap (w.alloc (.map #[] 0)) w.heap.size 0 [] :=
  ⟨.map [], World.ownsMap_made _ _ _ _, ⟨fun p => ⟨by simp [Maps.has_eq], by rw [atKey_of_not_has (by simp [Maps.has_eq])]; simp⟩, rfl⟩⟩
theorem OnMap.lt {w : World} {b n : Nat} {on : List Nat} (h : OnMap w b n on) : b < w.heap.size := by
  obtain ⟨D, hown, _⟩ := h
  exact hown.lt
theorem OnMap.block {w w' : World} {b n : Nat} {on : List Nat} (h : OnMap w b n on) (hb : w'.heap[b]? = w.heap[b]?) : OnMap w' b n on := by
  obtain ⟨D, ⟨es, cl, h1, h2, h3, h4⟩, hD⟩ := h
  exact ⟨D, ⟨es, cl, hb.trans h1, h2, h3, h4⟩, hD⟩
theorem OnMap.mono {w w' : World} {b n : Nat} {on : List Nat} (h : OnMap w b n on) (hb : Below w.heap.size w w') : OnMap w' b n on := h.block (hb.block b h.lt)
theorem OnMap.more {w : World} {b n n' : Nat} {on : List Nat} (h : OnMap w b n on) (hn : n ≤ n') : OnMap w b n' on := by
  obtain ⟨D, hown, hD⟩ := h
  exact ⟨D, hown.mono hn, hD⟩
theorem OnMap.map {w : World} {b n : Nat} {on : List Nat} (h : OnMap w b n on) : ∃ es cl, w.heap[b]? = some (.map es cl) := by
  obtain ⟨D, ⟨es, cl, h1, _⟩, _⟩ := h
  exact ⟨es, cl, h1⟩
theorem plainBool {v : Value} {z : DataW Unit × List MemPlace} (h : plainElem Try.prog 4 v = some z) : ∃ x, v = .bool x ∧ z = (.lit (.bool x), []) := by
  unfold plainElem at h
  rw [Try.underlying4] at h
  cases v <;> simp at h
  exact ⟨_, rfl, h.symm⟩
theorem wf_i64_nat {p : Nat} (hp : p < 9223372036854775808) : (Lit.int .i64 (p : Nat)).wf = true := WalkArith.wf_i64 (by omega)
theorem OnMap.look {w : World} {b n : Nat} {on : List Nat} (h : OnMap w b n on) (p : Nat) (hp : p < 9223372036854775808) :
    (Instr.lookup 67 (.map (some b)) (.int .i64 (p : Nat)) false).run Try.prog w = .ok (.bool (decide (p ∈ on))) w := by
  obtain ⟨D, hown, hD, _⟩ := h
  obtain ⟨v, ps, hrun, hv⟩ := hown.lookup int_law Try.underlying67 (bool_zero w) (plainElem_bool Try.underlying4 false) (keyOf_int_mk Try.underlying3 (wf_i64_nat hp))
  rw [(hD p).2] at hv
  obtain ⟨x, rfl, hx⟩ := plainBool hv
  simp at hx
  rw [hrun, hx.1]
theorem OnMap.len {w : World} {b n : Nat} {on : List Nat} (h : OnMap w b n on) (ty : TypeId) : (Builtin.len_ #[67] ty #[.map (some b)]).run Try.prog w = .ok (.int .i64 (on.length : Nat)) w := by
  obtain ⟨D, hown, _, hs⟩ := h
  rw [← hs]
  exact hown.len Try.underlying67 ty
theorem onMap_put {w w1 : World} {b n : Nat} {on : List Nat} {D : DataW Unit} (hown : w.ownsMap Try.prog 3 (plainElem Try.prog 4) b n D) (hD : OnD D on) (p : Nat)
    (hown1 : w1.ownsMap Try.prog 3 (plainElem Try.prog 4) b (n + 1) (D.put (.int .i64 (p : Nat)) (.lit (.bool true)))) : OnMap w1 b (n + 1) (if p ∈ on then on else on ++ [p]) := by
  obtain ⟨hD, hs⟩ := hD
  refine ⟨_, hown1, fun q => ?_, ?_⟩
  · by_cases hq : q = p
    · subst hq
      rw [has_put_same hown.isMap (by trivial), atKey_put_same hown.isMap (by trivial)]
      have : q ∈ (if q ∈ on then on else on ++ [q]) := by
        split
        · assumption
        · simp
      simp [this]
    · have hne : (Lit.int .i64 (q : Nat)) ≠ .int .i64 (p : Nat) := by
        intro h
        injection h with _ h
        omega
      rw [has_put_other hne, atKey_put_other hne, (hD q).1, (hD q).2]
      have : (q ∈ (if p ∈ on then on else on ++ [p])) ↔ q ∈ on := by
        split
        · exact Iff.rfl
        · simp [hq]
      simp [this]
  · rw [size_put (hown.tidy int_law), (hD p).1, hs]
    by_cases hp : p ∈ on <;> simp [hp]
/-- Bytes, behind a store into a map. -/
theorem BytesAt.offmap {w w' : World} {a : Option Addr} {len cap : Nat} {l : List Nat} (h : BytesAt w a len cap l) {g : Nat} {es : Array MapEntry} {cl : Nat} (hg : w.heap[g]? = some (.map es cl))
    (hs : w.heap.size ≤ w'.heap.size) (ho : ∀ b, b < w.heap.size → b ≠ g → w'.heap[b]? = w.heap[b]?) : BytesAt w' a len cap l := by
  refine ⟨h.1, h.2, h.3, h.4, ?_⟩
  rcases h.5 with h4 | ⟨b, off, ha, hlt, hc⟩
  · exact .inl h4
  · by_cases h0 : len = 0
    · exact .inl h0
    refine .inr ⟨b, off, ha, Nat.lt_of_lt_of_le hlt hs, fun i hi => ?_⟩
    have hne : b ≠ g := by
      rintro rfl
      have := hc 0 (by omega)
      simp [World.cell?, hg] at this
    rw [← hc i hi]
    exact World.cell?_of_block (ho b hlt hne)
theorem BlurAt.offmap {w w' : World} {m k seed : Nat} {v : Value} {l0 l1 l2 : List Nat} (h : BlurAt w m k seed v l0 l1 l2) {g : Nat} {es : Array MapEntry} {cl : Nat} (hg : w.heap[g]? = some (.map es cl))
    (hs : w.heap.size ≤ w'.heap.size) (ho : ∀ b, b < w.heap.size → b ≠ g → w'.heap[b]? = w.heap[b]?) : BlurAt w' m k seed v l0 l1 l2 := by
  obtain ⟨a0, a1, a2, c0, c1, c2, hv, h0, h1, h2⟩ := h.val
  exact ⟨h.m1, h.m2, h.k1, h.k2, h.sd, a0, a1, a2, c0, c1, c2, hv, h0.offmap hg hs ho, h1.offmap hg hs ho, h2.offmap hg hs ho⟩
theorem BoxAt.offmap {w w' : World} {g b n M K seed L : Nat} {on : List Nat} {b0 b1 b2 : Option Addr} {d0 d1 d2 : Nat} {l0 l1 l2 : List Nat} (x : BoxAt w g M K seed L b0 b1 b2 d0 d1 d2 l0 l1 l2) (hM : OnMap w b n on)
    (hs : w.heap.size ≤ w'.heap.size) (ho : ∀ c, c < w.heap.size → c ≠ b → w'.heap[c]? = w.heap[c]?) : BoxAt w' g M K seed L b0 b1 b2 d0 d1 d2 l0 l1 l2 := by
  obtain ⟨es, cl, hg⟩ := hM.map
  refine ⟨(ho g x.lt ?_).trans x.row, x.store.offmap hg hs ho⟩
  rintro rfl
  have := x.row
  rw [hg] at this
  simp at this
/-- Numbers, behind a store into a map. -/
theorem NatsAt.offmap {w w' : World} {a : Option Addr} {len cap : Nat} {on : List Nat} (h : NatsAt w a len cap on) {b n : Nat} {l : List Nat} (hM : OnMap w b n l)
    (hs : w.heap.size ≤ w'.heap.size) (ho : ∀ c, c < w.heap.size → c ≠ b → w'.heap[c]? = w.heap[c]?) : NatsAt w' a len cap on := by
  obtain ⟨es, cl, hg⟩ := hM.map
  refine ⟨⟨h.ints.1, h.ints.2, ?_⟩, h.nil⟩
  rcases h.ints.3 with h4 | ⟨c, off, ha, hlt, hc⟩
  · exact .inl h4
  · by_cases h0 : len = 0
    · exact .inl h0
    refine .inr ⟨c, off, ha, Nat.lt_of_lt_of_le hlt hs, fun i hi => ?_⟩
    have hne : c ≠ b := by
      rintro rfl
      have := hc 0 (by omega)
      simp [World.cell?, hg] at this
    rw [← hc i hi]
    exact World.cell?_of_block (ho c hlt hne)
theorem all_in {M : Nat} {on : List Nat} (nd : on.Nodup) (hlt : ∀ p ∈ on, p < M) (hl : on.length = M) (p : Nat) (hp : p < M) : p ∈ on := by
  refine Classical.byContradiction fun hn => ?_
  have := (List.nodup_cons.2 ⟨hn, nd⟩).length_le_of_subset (l₂ := List.range M) fun q hq => by
    rcases List.mem_cons.1 hq with rfl | hq
    · exact List.mem_range.2 hp
    · exact List.mem_range.2 (hlt q hq)
  simp at this
  omega
/-- Rows of bytes that came in. -/
structure KeyD where
  ka : Option Addr
  kl : Nat
  kc : Nat
  key : List Nat
structure KeysAt (w : World) (a : Option Addr) (len : Nat) (f : Nat → KeyD) : Prop where
  small : len ≤ 9223372036854775807
  at_ : len = 0 ∨ ∃ b off, a = some ⟨b, off, none⟩ ∧ b < w.heap.size ∧ ∀ i, i < len → w.cell? ⟨b, off + i, none⟩ = some (.slice (f i).ka (f i).kl (f i).kc) ∧ BytesAt w (f i).ka (f i).kl (f i).kc (f i).key
theorem KeysAt.mono {w w' : World} {a : Option Addr} {len : Nat} {f : Nat → KeyD} (h : KeysAt w a len f) (hb : Below w.heap.size w w') : KeysAt w' a len f := by
  refine ⟨h.1, ?_⟩
  rcases h.2 with h0 | ⟨b, off, ha, hlt, hi⟩
  · exact .inl h0
  · exact .inr ⟨b, off, ha, Nat.lt_of_lt_of_le hlt hb.size, fun i hil => ⟨(hb.cell (p := ⟨b, off + i, none⟩) hlt).trans (hi i hil).1, (hi i hil).2.mono hb⟩⟩
section
variable {H : Type} {enc : TypeId × Value → H} {P : Program} {w : World} {base b0 : Nat} {spare : Nat → Bool} {held : Bool}
theorem keys_trod {t e u8 : TypeId} {fuel : Nat} {v : Value} {y : DataW H × List MemPlace} (ht : P.underlying t = some (.slice e)) (he : P.underlying e = some (.slice u8)) (tu : P.underlying u8 = some (.int .u8)) (cu : P.cellsOf u8 = 1) (hc : P.cellsOf e = 1)
    (h : DataW.trod enc P w base spare held fuel t [v] = some y) : ∃ (a : Option Addr) (len cap : Nat) (f : Nat → KeyD), v = .slice a len cap ∧ KeysAt w a len f := by
  obtain ⟨a, len, cap, rfl, _, hm, hat⟩ := elems_trod ht hc (by decide) h
  rcases hat with h0' | ⟨b, off, rfl, hlt, hi⟩
  · exact ⟨a, len, cap, fun _ => ⟨none, 0, 0, []⟩, rfl, hm, .inl h0'⟩
  have key : ∀ i, i < len → ∃ x : KeyD, w.cell? ⟨b, off + i, none⟩ = some (.slice x.ka x.kl x.kc) ∧ BytesAt w x.ka x.kl x.kc x.key := by
    intro i hil
    obtain ⟨cs, n, z, hlen, hcell, htr⟩ := hi i hil
    obtain ⟨c0, rfl⟩ : ∃ c0, cs = [c0] := by
      match cs, hlen with
      | [c0], _ => exact ⟨c0, rfl⟩
    obtain ⟨ka, kl, kc, l, rfl, hk⟩ := bytes_trod he tu cu (c := c0) htr
    refine ⟨⟨ka, kl, kc, l⟩, ?_, hk⟩
    have := hcell 0 (by decide)
    simpa using this
  obtain ⟨f, hf⟩ := Classical.axiomOfChoice (r := fun (i : Nat) (x : KeyD) => i < len → w.cell? ⟨b, off + i, none⟩ = some (.slice x.ka x.kl x.kc) ∧ BytesAt w x.ka x.kl x.kc x.key) (fun i => by
    by_cases hil : i < len
    · obtain ⟨x, hx⟩ := key i hil
      exact ⟨x, fun _ => hx⟩
    · exact ⟨⟨none, 0, 0, []⟩, fun hh => absurd hh hil⟩)
  exact ⟨_, len, cap, f, rfl, hm, .inr ⟨b, off, rfl, hlt, fun i hil => hf i hil⟩⟩
end
end Go.Proofs.Ytcnpomejdnpegaa
