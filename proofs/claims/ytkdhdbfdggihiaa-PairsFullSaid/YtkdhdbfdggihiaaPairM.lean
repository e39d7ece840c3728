/- A map of pairs of numbers to places that the call itself makes. -/
import Derived.Test.YtkdhdbfdggihiaaPairD
import Derived.Maps.OwnSet
import Derived.Maps.OwnIn
import Derived.DeepKeys4
import Derived.Test.YtkdhdbfdggihiaaFrame
namespace Go.Proofs.Ytkdhdbfdggihiaa
open Go.RowKit Go.Maps
set_option linter.unusedVariables false
set_option linter.unusedSimpArgs false

def litP (a b : Nat) : Lit := .string (keyBytes [.int .u32 (a : Int), .int .u32 (b : Int)])
theorem keyOf_p {a b : Nat} (ha : a < 4294967296) (hb : b < 4294967296) : keyOf Try.prog 44 (.agg #[.int .u32 (a : Int), .int .u32 (b : Int)]) = some (litP a b) := by
  have w1 : (Lit.int .u32 (a : Int)).wf = true := WalkArith.wf_u32 (by omega)
  have w2 : (Lit.int .u32 (b : Int)).wf = true := WalkArith.wf_u32 (by omega)
  have u1 := Try.underlying44
  have u2 := Try.underlying23
  have c1 : Try.prog.cellsOf 23 = 1 := by kernel_rfl
  have c2 : Try.prog.cellsOf 44 = 2 := by kernel_rfl
  have k1 : Try.prog.keyType 44 = true := by kernel_rfl
  have k2 : ∃ d, Try.prog.types.size = d + 1 := ⟨Try.prog.types.size - 1, by kernel_rfl⟩
  obtain ⟨d, hd⟩ := k2
  have f1 : Value.formed Try.prog 44 (.agg #[.int .u32 (a : Int), .int .u32 (b : Int)]) = true := by simp [Value.formed, u1, c2]
  have h2 : ∀ z : Int, (Lit.int .u32 z).wf = true → Try.prog.keyLits (d + 1) 23 [.int .u32 z] = some [.int .u32 z] := fun z hz => by simp [Program.keyLits, u2, hz]
  unfold keyOf
  rw [u1]
  simp only [k1, f1, Bool.and_self, if_true, hd]
  unfold Program.keyLits
  simp [u1, c1, c2, List.range_succ, h2 _ w1, h2 _ w2, litP, Value.cells]
theorem pairK_law : Keyed Try.prog 44 := Keyed.of_law (deep_law_laid (m := 3) Try.laidOut (by omega) (of_decide_eq_true (by kernel_rfl)) (by kernel_rfl) (by kernel_rfl))
theorem litP_inj {a b c d : Nat} (ha : a < 4294967296) (hb : b < 4294967296) (hc : c < 4294967296) (hd : d < 4294967296) (h : litP a b = litP c d) : a = c ∧ b = d := by
  have := pairK_law.inj (keyOf_p ha hb) (h ▸ keyOf_p hc hd)
  simp at this
  omega
theorem int_zero (w : World) : (zeroValue 3).run Try.prog w = .ok (.int .i64 0) w := by kernel_rfl
/-- What the map holds. -/
def AtDP (D : DataW Unit) (ks : List (List Nat)) : Prop :=
  (∀ a b : Nat, a < 4294967296 → b < 4294967296 → Maps.has D (litP a b) = decide (pk a b ∈ ks) ∧ ∀ p, p < ks.length → ks.getD p [] = pk a b → D.atKey (litP a b) (.lit (.int .i64 0)) = .lit (.int .i64 (p : Nat))) ∧ Maps.size D = ks.length
def AtMapP (w : World) (b n : Nat) (ks : List (List Nat)) : Prop := ∃ D : DataW Unit, w.ownsMap Try.prog 44 (plainElem Try.prog 3) b n D ∧ AtDP D ks
theorem AtMapP.made (w : World) : AtMapP (w.alloc (.map #[] 0)) w.heap.size 0 [] :=
  ⟨.map [], World.ownsMap_made _ _ _ _, fun a b _ _ => ⟨by simp [Maps.has_eq], fun p hp => by simp at hp⟩, rfl⟩
theorem AtMapP.lt {w : World} {b n : Nat} {ks : List (List Nat)} (h : AtMapP w b n ks) : b < w.heap.size := by
  obtain ⟨D, hown, _⟩ := h
  exact hown.lt
theorem AtMapP.block {w w' : World} {b n : Nat} {ks : List (List Nat)} (h : AtMapP w b n ks) {es : Array MapEntry} {cl : Nat} (hm : w.heap[b]? = some (.map es cl)) (hb : w'.heap[b]? = some (.map es cl)) : AtMapP w' b n ks := by
  obtain ⟨D, ⟨es', cl', h1, h2, h3, h4⟩, hD⟩ := h
  exact ⟨D, ⟨es', cl', (hb.trans hm.symm).trans h1, h2, h3, h4⟩, hD⟩
theorem AtMapP.map {w : World} {b n : Nat} {ks : List (List Nat)} (h : AtMapP w b n ks) : ∃ es cl, w.heap[b]? = some (.map es cl) := by
  obtain ⟨D, ⟨es, cl, h1, _⟩, _⟩ := h
  exact ⟨es, cl, h1⟩
theorem AtMapP.mono {w w' : World} {b n : Nat} {ks : List (List Nat)} (h : AtMapP w b n ks) (hb : Below w.heap.size w w') : AtMapP w' b n ks := by
  obtain ⟨es, cl, hm⟩ := h.map
  exact h.block hm ((hb.block b h.lt).trans hm)
theorem AtMapP.same {w w' : World} {b n : Nat} {ks : List (List Nat)} (h : AtMapP w b n ks) (hb : w'.heap[b]? = w.heap[b]?) : AtMapP w' b n ks := by
  obtain ⟨es, cl, hm⟩ := h.map
  exact h.block hm (hb.trans hm)
theorem AtMapP.more {w : World} {b n n' : Nat} {ks : List (List Nat)} (h : AtMapP w b n ks) (hn : n ≤ n') : AtMapP w b n' ks := by
  obtain ⟨D, hown, hD⟩ := h
  exact ⟨D, hown.mono hn, hD⟩
theorem AtMapP.look {w : World} {g n : Nat} {ks : List (List Nat)} (h : AtMapP w g n ks) {a b : Nat} (ha : a < 4294967296) (hb : b < 4294967296) :
    ∃ c : Int, (Instr.lookup 55 (.map (some g)) (.agg #[.int .u32 (a : Int), .int .u32 (b : Int)]) true).run Try.prog w = .ok (.tuple #[.int .i64 c, .bool (decide (pk a b ∈ ks))]) w ∧ ∀ p : Nat, p < ks.length → ks.getD p [] = pk a b → c = (p : Nat) := by
  obtain ⟨D, hown, hD, _⟩ := h
  obtain ⟨v, ps, hrun, hv⟩ := hown.look_ok pairK_law Try.underlying55 (int_zero w) (plainElem_int Try.underlying3 (by decide)) (keyOf_p ha hb)
  obtain ⟨c, rfl, hc, hwc⟩ := plainElem_int_inv Try.underlying3 hv
  simp only [Prod.mk.injEq] at hc
  refine ⟨c, by rw [hrun, (hD a b ha hb).1], fun p hp hpk => ?_⟩
  have := (hD a b ha hb).2 p hp hpk
  rw [hc.1] at this
  simpa using this
theorem AtMapP.lookn {w : World} {g n : Nat} {ks : List (List Nat)} (h : AtMapP w g n ks) {a b : Nat} (ha : a < 4294967296) (hb : b < 4294967296) :
    ∃ c : Int, (Instr.lookup 55 (.map (some g)) (.agg #[.int .u32 (a : Int), .int .u32 (b : Int)]) false).run Try.prog w = .ok (.int .i64 c) w ∧ ∀ p : Nat, p < ks.length → ks.getD p [] = pk a b → c = (p : Nat) := by
  obtain ⟨D, hown, hD, _⟩ := h
  obtain ⟨c, hrun, hc, _⟩ := hown.lookup_int pairK_law Try.underlying55 Try.underlying3 (int_zero w) (keyOf_p ha hb)
  refine ⟨c, hrun, fun p hp hpk => ?_⟩
  have := (hD a b ha hb).2 p hp hpk
  rw [hc] at this
  simpa using this
theorem AtMapP.len {w : World} {b n : Nat} {ks : List (List Nat)} (h : AtMapP w b n ks) (ty : TypeId) : (Builtin.len_ #[55] ty #[.map (some b)]).run Try.prog w = .ok (.int .i64 (ks.length : Nat)) w := by
  obtain ⟨D, hown, _, hs⟩ := h
  rw [← hs]
  exact hown.len Try.underlying55 ty
/-- A pair that is put: new, or again with its place. -/
theorem atMapP_put {w w1 : World} {g n : Nat} {ks : List (List Nat)} {D : DataW Unit} (hown : w.ownsMap Try.prog 44 (plainElem Try.prog 3) g n D) (hD : AtDP D ks) {a b : Nat} (ha : a < 4294967296) (hb : b < 4294967296) (hnd : ks.Nodup) {p : Nat} (hp : p < (insK ks (pk a b)).length) (hpk : (insK ks (pk a b)).getD p [] = pk a b)
    (hown1 : w1.ownsMap Try.prog 44 (plainElem Try.prog 3) g (n + 1) (D.put (litP a b) (.lit (.int .i64 (p : Nat))))) : AtMapP w1 g (n + 1) (insK ks (pk a b)) := by
  obtain ⟨hD, hs⟩ := hD
  have hnd2 := insK_nodup (key := pk a b) hnd
  refine ⟨_, hown1, fun c d hc hd => ?_, ?_⟩
  · by_cases hq : c = a ∧ d = b
    · obtain ⟨rfl, rfl⟩ := hq
      rw [has_put_same hown.isMap (by trivial), atKey_put_same hown.isMap (by trivial)]
      refine ⟨(decide_eq_true (insK_mem.2 (.inr rfl))).symm, fun q hq hqk => ?_⟩
      rw [getD_inj hnd2 hq hp (by rw [hqk, hpk])]
    · have hne : litP c d ≠ litP a b := fun h => hq (litP_inj hc hd ha hb h)
      have hne2 : pk c d ≠ pk a b := fun h => hq (pk_inj hc hd ha hb h)
      rw [has_put_other hne, atKey_put_other hne, (hD c d hc hd).1]
      refine ⟨by rw [insK_has, decide_eq_false hne2, Bool.or_false], fun q hq hqk => ?_⟩
      unfold insK at hq hqk
      by_cases hm : pk a b ∈ ks
      · rw [if_pos hm] at hq hqk
        exact (hD c d hc hd).2 q hq hqk
      · rw [if_neg hm] at hq hqk
        have hlt : q < ks.length := by
          refine Classical.byContradiction fun hge => hne2 ?_
          have : q = ks.length := by simp at hq; omega
          rw [this, List.getD_eq_getElem?_getD] at hqk
          simpa using hqk.symm
        rw [List.getD_eq_getElem?_getD, List.getElem?_append_left hlt, ← List.getD_eq_getElem?_getD] at hqk
        exact (hD c d hc hd).2 q hlt hqk
  · rw [size_put (hown.tidy pairK_law), (hD a b ha hb).1, hs, insK_len]
    by_cases hm : pk a b ∈ ks <;> simp [hm]
/-- The pairs that came, each once, in order. -/
def keysP (f : Nat → Nat × Nat) : Nat → List (List Nat)
  | 0 => []
  | j + 1 => insK (keysP f j) (pk (f j).1 (f j).2)
theorem keysP_nodup (f : Nat → Nat × Nat) : ∀ j, (keysP f j).Nodup
  | 0 => List.nodup_nil
  | j + 1 => insK_nodup (keysP_nodup f j)
theorem keysP_mem (f : Nat → Nat × Nat) : ∀ j i, i < j → pk (f i).1 (f i).2 ∈ keysP f j
  | j + 1, i, h => by
    by_cases hi : i = j
    · exact insK_mem.2 (.inr (by rw [hi]))
    · exact insK_mem.2 (.inl (keysP_mem f j i (by omega)))
theorem keysP_len (f : Nat → Nat × Nat) : ∀ j, (keysP f j).length ≤ j
  | 0 => Nat.le_refl _
  | j + 1 => by
    show (insK (keysP f j) _).length ≤ j + 1
    rw [insK_len]
    have := keysP_len f j
    have := Bool.toNat_le (!decide (pk (f j).1 (f j).2 ∈ keysP f j))
    omega
theorem keysP_short (f : Nat → Nat × Nat) : ∀ j, ∀ k ∈ keysP f j, k.length ≤ 1000000
  | 0, k, h => by cases h
  | j + 1, k, h => by
    rcases insK_mem.1 (show k ∈ insK (keysP f j) _ from h) with h | h
    · exact keysP_short f j k h
    · rw [h, pk_len]
      decide
/-- Bytes, behind a store into a map. -/
theorem BytesAt.offmap {w w' : World} {a : Option Addr} {len cap : Nat} {l : List Nat} (h : BytesAt w a len cap l) {g : Nat} {es : Array MapEntry} {cl : Nat} (hg : w.heap[g]? = some (.map es cl))
    (hs : w.heap.size ≤ w'.heap.size) (ho : ∀ b, b < w.heap.size → b ≠ g → w'.heap[b]? = w.heap[b]?) : BytesAt w' a len cap l := by
  refine ⟨h.1, h.2, h.3, h.4, ?_⟩
  rcases h.5 with h4 | ⟨b, off, ha, hlt, hc⟩
  · exact .inl h4
  · by_cases h0 : len = 0
    · exact .inl h0
    refine .inr ⟨b, off, ha, Nat.lt_of_lt_of_le hlt hs, fun i hi => ?_⟩
    have hne : b ≠ g := by
      rintro rfl
      have := hc 0 (by omega)
      simp [World.cell?, hg] at this
    rw [← hc i hi]
    exact World.cell?_of_block (ho b hlt hne)
theorem cells_off {w w' : World} {g : Nat} {es : Array MapEntry} {cl : Nat} (hg : w.heap[g]? = some (.map es cl)) (ho : ∀ b, b < w.heap.size → b ≠ g → w'.heap[b]? = w.heap[b]?) {b : Nat} {vs : Array Value} {t : TypeId} {fr : Nat × Nat} (hb : w.heap[b]? = some (.cells vs t fr)) : w'.heap[b]? = some (.cells vs t fr) := by
  refine (ho b (Array.getElem?_eq_some_iff.1 hb).1 ?_).trans hb
  rintro rfl
  rw [hg] at hb
  simp at hb
/-- A table, behind a store into a map. -/
theorem TabM.offmap {w w' : World} {B : Nat} {ka : Option Addr} {n kc : Nat} {sa : Option Addr} {sl sc : Nat} {ks : List (List Nat)} {s : List Int} {rs : List (Nat × Nat)} (h : TabM w B ka n kc sa sl sc ks s rs) {g : Nat} {es : Array MapEntry} {cl : Nat} (hg : w.heap[g]? = some (.map es cl))
    (hs : w.heap.size ≤ w'.heap.size) (ho : ∀ b, b < w.heap.size → b ≠ g → w'.heap[b]? = w.heap[b]?) : TabM w' B ka n kc sa sl sc ks s rs := by
  have hcell : ∀ (b o : Nat) (v : Value), b < w.heap.size → w.cell? ⟨b, o, none⟩ = some v → w'.cell? ⟨b, o, none⟩ = some v := fun b o v hlt hc => by
    have hne : b ≠ g := by
      rintro rfl
      simp [World.cell?, hg] at hc
    rw [← hc]
    exact World.cell?_of_block (ho b hlt hne)
  refine ⟨⟨⟨h.rd.slots.1, h.rd.slots.2, ?_⟩, ?_, h.rd.len, h.rd.row, h.rd.hash, h.rd.small⟩, ?_⟩
  · rcases h.rd.slots.3 with h0 | ⟨b, off, ha, hlt, hc⟩
    · exact .inl h0
    · by_cases h1 : s.length = 0
      · have := h.rd.slots.1
        exact .inl (by omega)
      refine .inr ⟨b, off, ha, by omega, fun i hi => ?_⟩
      exact hcell b _ _ hlt (hc i hi)
  · rcases h.rd.keys with h0 | ⟨kb, hk, hlt, hi⟩
    · exact .inl h0
    · refine .inr ⟨kb, hk, by omega, fun i hil => ?_⟩
      obtain ⟨a, l, c, e1, e2, e3⟩ := hi i hil
      exact ⟨a, l, c, hcell kb _ _ hlt e1, e2.offmap hg hs ho, e3⟩
  · rcases h.mem with h0 | ⟨kb, sb, kcur, scur, h1, h2, r⟩
    · exact .inl h0
    · exact .inr ⟨kb, sb, kcur, scur, h1, h2, ⟨r.1, r.2, r.3, cells_off hg ho r.4, cells_off hg ho r.5, r.6, r.7, r.8, r.9, r.10, r.11, r.12, r.13⟩⟩
end Go.Proofs.Ytkdhdbfdggihiaa
