/- A map of strings to places that the call itself makes; Insert, all its endings (by gen04w.py). -/
import Derived.Test.YtgfiampcjgdojaaTabQ
import Derived.Test.YtgfiampcjgdojaaTabK
import Derived.Maps.OwnSet
import Derived.StringKeys
namespace Go.Proofs.Ytgfiampcjgdojaa
open Go.RowKit Go.Maps
set_option linter.unusedVariables false
set_option linter.unusedSimpArgs false

def litK (k : List Nat) : Lit := .string (strOfNums (k.map fun (n : Nat) => (n : Int))).data.toList
theorem litK_inj {a b : List Nat} (ha : ∀ n ∈ a, n < 256) (hb : ∀ n ∈ b, n < 256) (h : litK a = litK b) : a = b := by
  unfold litK at h
  injection h with h
  have h2 : strOfNums (a.map fun (n : Nat) => (n : Int)) = strOfNums (b.map fun (n : Nat) => (n : Int)) := ByteArray.ext (Array.toList_inj.1 h)
  have h3 := str_same ha hb
  rw [h2] at h3
  exact of_decide_eq_true (by rw [← h3]; simp)
theorem strK_law : Keyed Try.prog 9 := string_keyed Try.underlying9
theorem int_zero (w : World) : (zeroValue 3).run Try.prog w = .ok (.int .i64 0) w := by kernel_rfl
theorem keyOf_k {k : List Nat} (hl : k.length ≤ 1000000) : keyOf Try.prog 9 (.string (strOfNums (k.map fun (n : Nat) => (n : Int)))) = some (litK k) :=
  WideMaps.keyOf_string_mk Try.underlying9 (by rw [strOfNums_size, List.length_map]; unfold maxLen; omega)
/-- What the map holds. -/
def AtD (D : DataW Unit) (ks : List (List Nat)) : Prop :=
  (∀ k : List Nat, (∀ n ∈ k, n < 256) → Maps.has D (litK k) = decide (k ∈ ks) ∧ ∀ p, p < ks.length → ks.getD p [] = k → D.atKey (litK k) (.lit (.int .i64 0)) = .lit (.int .i64 (p : Nat))) ∧ Maps.size D = ks.length
def AtMap (w : World) (b n : Nat) (ks : List (List Nat)) : Prop := ∃ D : DataW Unit, w.ownsMap Try.prog 9 (plainElem Try.prog 3) b n D ∧ AtD D ks
theorem AtMap.made (w : World) : AtMap (w.alloc (.map #[] 0)) w.heap.size 0 [] :=
  ⟨.map [], World.ownsMap_made _ _ _ _, fun k _ => ⟨by simp [Maps.has_eq], fun p hp => by simp at hp⟩, rfl⟩
theorem AtMap.lt {w : World} {b n : Nat} {ks : List (List Nat)} (h : AtMap w b n ks) : b < w.heap.size := by
  obtain ⟨D, hown, _⟩ := h
  exact hown.lt
theorem AtMap.block {w w' : World} {b n : Nat} {ks : List (List Nat)} (h : AtMap w b n ks) {es : Array MapEntry} {cl : Nat} (hm : w.heap[b]? = some (.map es cl)) (hb : w'.heap[b]? = some (.map es cl)) : AtMap w' b n ks := by
  obtain ⟨D, ⟨es', cl', h1, h2, h3, h4⟩, hD⟩ := h
  exact ⟨D, ⟨es', cl', (hb.trans hm.symm).trans h1, h2, h3, h4⟩, hD⟩
theorem AtMap.map {w : World} {b n : Nat} {ks : List (List Nat)} (h : AtMap w b n ks) : ∃ es cl, w.heap[b]? = some (.map es cl) := by
  obtain ⟨D, ⟨es, cl, h1, _⟩, _⟩ := h
  exact ⟨es, cl, h1⟩
theorem AtMap.mono {w w' : World} {b n : Nat} {ks : List (List Nat)} (h : AtMap w b n ks) (hb : Below w.heap.size w w') : AtMap w' b n ks := by
  obtain ⟨es, cl, hm⟩ := h.map
  exact h.block hm ((hb.block b h.lt).trans hm)
theorem AtMap.more {w : World} {b n n' : Nat} {ks : List (List Nat)} (h : AtMap w b n ks) (hn : n ≤ n') : AtMap w b n' ks := by
  obtain ⟨D, hown, hD⟩ := h
  exact ⟨D, hown.mono hn, hD⟩
theorem atMap_put {w w1 : World} {b n : Nat} {ks : List (List Nat)} {D : DataW Unit} (hown : w.ownsMap Try.prog 9 (plainElem Try.prog 3) b n D) (hD : AtD D ks) (k : List Nat) (hk : ∀ n ∈ k, n < 256) (hno : k ∉ ks)
    (hown1 : w1.ownsMap Try.prog 9 (plainElem Try.prog 3) b (n + 1) (D.put (litK k) (.lit (.int .i64 (ks.length : Nat))))) : AtMap w1 b (n + 1) (ks ++ [k]) := by
  obtain ⟨hD, hs⟩ := hD
  refine ⟨_, hown1, fun q hq => ?_, ?_⟩
  · by_cases hqk : q = k
    · subst hqk
      rw [has_put_same hown.isMap (by trivial), atKey_put_same hown.isMap (by trivial)]
      refine ⟨by simp, fun p hp hpk => ?_⟩
      have hpl : p = ks.length := by
        refine Classical.byContradiction fun hne => hno ?_
        have hlt : p < ks.length := by simp at hp; omega
        rw [List.getD_eq_getElem?_getD, List.getElem?_append_left hlt, ← List.getD_eq_getElem?_getD] at hpk
        exact hpk ▸ getD_mem hlt
      rw [hpl]
    · have hne : litK q ≠ litK k := fun h => hqk (litK_inj hq hk h)
      rw [has_put_other hne, atKey_put_other hne, (hD q hq).1]
      refine ⟨by simp [hqk], fun p hp hpk => ?_⟩
      have hlt : p < ks.length := by
        refine Classical.byContradiction fun hge => hqk ?_
        have : p = ks.length := by simp at hp; omega
        rw [this, List.getD_eq_getElem?_getD] at hpk
        simpa using hpk.symm
      rw [List.getD_eq_getElem?_getD, List.getElem?_append_left hlt, ← List.getD_eq_getElem?_getD] at hpk
      exact (hD q hq).2 p hlt hpk
  · rw [size_put (hown.tidy strK_law), (hD k hk).1, hs]
    simp [hno]
/-- Bytes, behind a store into a map. -/
theorem BytesAt.offmap {w w' : World} {a : Option Addr} {len cap : Nat} {l : List Nat} (h : BytesAt w a len cap l) {g : Nat} {es : Array MapEntry} {cl : Nat} (hg : w.heap[g]? = some (.map es cl))
    (hs : w.heap.size ≤ w'.heap.size) (ho : ∀ b, b < w.heap.size → b ≠ g → w'.heap[b]? = w.heap[b]?) : BytesAt w' a len cap l := by
  refine ⟨h.1, h.2, h.3, h.4, ?_⟩
  rcases h.5 with h4 | ⟨b, off, ha, hlt, hc⟩
  · exact .inl h4
  · by_cases h0 : len = 0
    · exact .inl h0
    refine .inr ⟨b, off, ha, Nat.lt_of_lt_of_le hlt hs, fun i hi => ?_⟩
    have hne : b ≠ g := by
      rintro rfl
      have := hc 0 (by omega)
      simp [World.cell?, hg] at this
    rw [← hc i hi]
    exact World.cell?_of_block (ho b hlt hne)
theorem cells_off {w w' : World} {g : Nat} {es : Array MapEntry} {cl : Nat} (hg : w.heap[g]? = some (.map es cl)) (ho : ∀ b, b < w.heap.size → b ≠ g → w'.heap[b]? = w.heap[b]?) {b : Nat} {vs : Array Value} {t : TypeId} {fr : Nat × Nat} (hb : w.heap[b]? = some (.cells vs t fr)) : w'.heap[b]? = some (.cells vs t fr) := by
  refine (ho b (Array.getElem?_eq_some_iff.1 hb).1 ?_).trans hb
  rintro rfl
  rw [hg] at hb
  simp at hb
/-- A table, behind a store into a map. -/
theorem TabM.offmap {w w' : World} {B : Nat} {ka : Option Addr} {n kc : Nat} {sa : Option Addr} {sl sc : Nat} {ks : List (List Nat)} {s : List Int} {rs : List (Nat × Nat)} (h : TabM w B ka n kc sa sl sc ks s rs) {g : Nat} {es : Array MapEntry} {cl : Nat} (hg : w.heap[g]? = some (.map es cl))
    (hs : w.heap.size ≤ w'.heap.size) (ho : ∀ b, b < w.heap.size → b ≠ g → w'.heap[b]? = w.heap[b]?) : TabM w' B ka n kc sa sl sc ks s rs := by
  have hcell : ∀ (b o : Nat) (v : Value), b < w.heap.size → w.cell? ⟨b, o, none⟩ = some v → w'.cell? ⟨b, o, none⟩ = some v := fun b o v hlt hc => by
    have hne : b ≠ g := by
      rintro rfl
      simp [World.cell?, hg] at hc
    rw [← hc]
    exact World.cell?_of_block (ho b hlt hne)
  refine ⟨⟨⟨h.rd.slots.1, h.rd.slots.2, ?_⟩, ?_, h.rd.len, h.rd.row, h.rd.hash, h.rd.small⟩, ?_⟩
  · rcases h.rd.slots.3 with h0 | ⟨b, off, ha, hlt, hc⟩
    · exact .inl h0
    · by_cases h1 : s.length = 0
      · have := h.rd.slots.1
        exact .inl (by omega)
      refine .inr ⟨b, off, ha, by omega, fun i hi => ?_⟩
      exact hcell b _ _ hlt (hc i hi)
  · rcases h.rd.keys with h0 | ⟨kb, hk, hlt, hi⟩
    · exact .inl h0
    · refine .inr ⟨kb, hk, by omega, fun i hil => ?_⟩
      obtain ⟨a, l, c, e1, e2, e3⟩ := hi i hil
      exact ⟨a, l, c, hcell kb _ _ hlt e1, e2.offmap hg hs ho, e3⟩
  · rcases h.mem with h0 | ⟨kb, sb, kcur, scur, h1, h2, r⟩
    · exact .inl h0
    · exact .inr ⟨kb, sb, kcur, scur, h1, h2, ⟨r.1, r.2, r.3, cells_off hg ho r.4, cells_off hg ho r.5, r.6, r.7, r.8, r.9, r.10, r.11, r.12, r.13⟩⟩
/-- Insert, all its endings. -/
theorem insert_ev (w : World) (cap : Int) (hcap0 : 0 ≤ cap) (hcap : cap ≤ 1048576) (B : Nat) (ka : Option Addr) (n kc : Nat) (sa : Option Addr) (sl sc : Nat) (ks : List (List Nat)) (s : List Int) (rs : List (Nat × Nat)) (h : TabM w B ka n kc sa sl sc ks s rs) (hB : B ≤ w.heap.size) (ya : Option Addr) (yl yc : Nat) (key : List Nat) (hk : BytesAt w ya yl yc key) (hyl : yl ≤ 1000000) (hnd : ks.Nodup) :
    Calls Try.prog 23 #[.agg #[.int .i64 cap, .slice ka n kc, .slice sa sl sc], .slice ya yl yc] w fun e w' => ∃ (ka' : Option Addr) (n' kc' : Nat) (sa' : Option Addr) (sl' sc' : Nat) (ks' : List (List Nat)) (s' : List Int) (rs' : List (Nat × Nat)) (p : Nat) (F : Bool) (E : Int), e = .returned (.tuple #[.agg #[.int .i64 cap, .slice ka' n' kc', .slice sa' sl' sc'], .int .i64 (p : Nat), .bool F, .int .i64 E]) ∧
      TabM w' B ka' n' kc' sa' sl' sc' ks' s' rs' ∧ Below B w w' ∧
      (∀ (g : Nat) (vs : Array Value) (t : TypeId) (fr : Nat × Nat), w.heap[g]? = some (.cells vs t fr) → t ≠ 29 → t ≠ 3 → w'.heap[g]? = some (.cells vs t fr)) ∧
      (∀ (g : Nat) (es : Array MapEntry) (cl : Nat), w.heap[g]? = some (.map es cl) → w'.heap[g]? = some (.map es cl)) ∧ w.heap.size ≤ w'.heap.size ∧
      ((key ∈ ks ∧ F = false ∧ E = 0 ∧ ks' = ks ∧ p < ks.length ∧ ks.getD p [] = key) ∨ (key ∉ ks ∧ cap ≤ n ∧ F = false ∧ E = 7 ∧ ks' = ks) ∨ (key ∉ ks ∧ n < cap ∧ F = true ∧ E = 0 ∧ ks' = ks ++ [key] ∧ p = n)) := by
  by_cases hm : key ∈ ks
  · obtain ⟨p, hp, hpk⟩ := mem_getD hm
    refine (insert_old w cap hcap0 hcap B ka n kc sa sl sc ks s rs h hB ya yl yc key hk hyl hnd p hp hpk).mono ?_
    rintro e w' ⟨rfl, b⟩
    exact ⟨ka, n, kc, sa, sl, sc, ks, s, rs, p, false, 0, rfl, h.mono b, b.mono hB, fun g vs t fr hg _ _ => (b.block g (Array.getElem?_eq_some_iff.1 hg).1).trans hg, fun g es cl hg => (b.block g (Array.getElem?_eq_some_iff.1 hg).1).trans hg, b.size, .inl ⟨hm, rfl, rfl, rfl, hp, hpk⟩⟩
  by_cases hc : cap ≤ n
  · refine (insert_full w cap hcap0 hcap B ka n kc sa sl sc ks s rs h hB ya yl yc key hk hyl hm hc).mono ?_
    rintro e w' ⟨rfl, b⟩
    exact ⟨ka, n, kc, sa, sl, sc, ks, s, rs, 0, false, 7, rfl, h.mono b, b.mono hB, fun g vs t fr hg _ _ => (b.block g (Array.getElem?_eq_some_iff.1 hg).1).trans hg, fun g es cl hg => (b.block g (Array.getElem?_eq_some_iff.1 hg).1).trans hg, b.size, .inr (.inl ⟨hm, hc, rfl, rfl, rfl⟩)⟩
  have hnp : ∀ x : Addr, (ka = some x ∨ sa = some x) → ∃ vs t fr, w.heap[x.block]? = some (.cells vs t fr) := fun x hx => by
    rcases h.mem with ⟨_, e1, _, e2, _⟩ | ⟨kb, sb, kcur, scur, e1, e2, r⟩
    · rw [e1, e2] at hx
      rcases hx with hx | hx <;> cases hx
    · rw [e1, e2] at hx
      rcases hx with hx | hx
      · cases hx
        exact ⟨_, _, _, r.rowk⟩
      · cases hx
        exact ⟨_, _, _, r.rows⟩
  have hlen := h.rd.len
  refine (insert_le w cap hcap0 hcap B ka n kc sa sl sc ks s rs h hB ya yl yc key hk hyl hnd (by omega)).mono ?_
  rintro e w' ⟨ka', n', kc', sa', sl', sc', s', rs', p, rfl, Hx, _, bx, hn', hrec, _, _, ⟨hp, hpk⟩, _, hsz, hoth⟩
  rw [decide_eq_false hm]
  have hins : insK ks key = ks ++ [key] := by unfold insK; rw [if_neg hm]
  rw [hins] at Hx hp hpk
  refine ⟨ka', n', kc', sa', sl', sc', _, s', rs', p, true, 0, rfl, Hx, bx, hrec, fun g es cl hg => (hoth g (Array.getElem?_eq_some_iff.1 hg).1 ?_ ?_).trans hg, hsz, .inr (.inr ⟨hm, by omega, rfl, rfl, rfl, ?_⟩)⟩
  · intro x hx he
    obtain ⟨vs, t, fr, h1⟩ := hnp x (.inl hx)
    rw [he, hg] at h1
    cases h1
  · intro x hx he
    obtain ⟨vs, t, fr, h1⟩ := hnp x (.inr hx)
    rw [he, hg] at h1
    cases h1
  · rw [← hlen]
    refine Classical.byContradiction fun hne => hm ?_
    have hlt : p < ks.length := by simp at hp; omega
    rw [List.getD_eq_getElem?_getD, List.getElem?_append_left hlt, ← List.getD_eq_getElem?_getD] at hpk
    exact hpk ▸ getD_mem hlt
end Go.Proofs.Ytgfiampcjgdojaa
