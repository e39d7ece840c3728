/- Insert, all its endings, with all that stays: for the stores above. -/
import Derived.Test.YtbbdeefnooaacaaTabQ
namespace Go.Proofs.Ytbbdeefnooaacaa
open Go.RowKit
set_option linter.unusedVariables false
set_option linter.unusedSimpArgs false

theorem TabM.offrec {w w' : World} {B : Nat} {ka : Option Addr} {n kc : Nat} {sa : Option Addr} {sl sc : Nat} {ks : List (List Nat)} {s : List Int} {rs : List (Nat × Nat)} (h : TabM w B ka n kc sa sl sc ks s rs) {g : Nat} {t : TypeId} {vs : Array Value} (hg : w.heap[g]? = some (.cells vs t (0, 0))) (hno : NoU8 w g) (h1 : t ≠ 29) (h2 : t ≠ 3)
    (hs : w'.heap.size = w.heap.size) (ho : ∀ b, b ≠ g → w'.heap[b]? = w.heap[b]?) : TabM w' B ka n kc sa sl sc ks s rs := by
  have past : ∀ {a : Option Addr} {l c : Nat} {y : List Nat}, BytesAt w a l c y → BytesAt w' a l c y := fun hb => hb.past (bad := fun b => b = g) (fun b hb => hb ▸ hno) (Nat.le_of_eq hs.symm) fun b _ hb => ho b hb
  rcases h.mem with h0 | ⟨kb, sb, kcur, scur, e1, e2, r⟩
  · obtain ⟨rfl, rfl, rfl, rfl, rfl, rfl⟩ := h0
    exact ⟨⟨⟨h.rd.slots.1, h.rd.slots.2, .inl rfl⟩, .inl rfl, h.rd.len, h.rd.row, h.rd.hash, h.rd.small⟩, .inl ⟨rfl, rfl, rfl, rfl, rfl, rfl⟩⟩
  · have hk : kb ≠ g := by
      rintro rfl
      have := r.rowk
      rw [hg] at this
      simp at this
      exact h1 this.2
    have hsb : sb ≠ g := by
      rintro rfl
      have := r.rows
      rw [hg] at this
      simp at this
      exact h2 this.2
    subst e1 e2
    refine ⟨⟨⟨h.rd.slots.1, h.rd.slots.2, ?_⟩, ?_, h.rd.len, h.rd.row, h.rd.hash, h.rd.small⟩, .inr ⟨kb, sb, kcur, scur, rfl, rfl, ⟨r.1, r.2, r.3, (ho kb hk).trans r.4, (ho sb hsb).trans r.5, r.6, r.7, r.8, r.9, r.10, r.11, r.12, r.13⟩⟩⟩
    · rcases h.rd.slots.3 with h0 | ⟨b, off, ha, hb, hc⟩
      · exact .inl h0
      · cases ha
        exact .inr ⟨sb, 0, rfl, by rw [hs]; exact hb, fun i hi => (World.cell?_of_block (a := ⟨sb, 0 + i, none⟩) (ho sb hsb)).trans (hc i hi)⟩
    · rcases h.rd.keys with h0 | ⟨b, ha, hb, hc⟩
      · exact .inl h0
      · cases ha
        refine .inr ⟨kb, rfl, by rw [hs]; exact hb, fun i hi => ?_⟩
        obtain ⟨a, l, c, h1, h2, h3⟩ := hc i hi
        exact ⟨a, l, c, (World.cell?_of_block (a := ⟨kb, i, none⟩) (ho kb hk)).trans h1, past h2, h3⟩
/-- What an Insert tells, by the keys ahead. -/
def OutP (cap : Int) (ks : List (List Nat)) (key : List Nat) (p : Nat) (F : Bool) (E : Int) (ks' : List (List Nat)) : Prop :=
  (key ∈ ks ∧ F = false ∧ E = 0 ∧ ks' = ks ∧ p < ks.length ∧ ks.getD p [] = key) ∨ (key ∉ ks ∧ cap ≤ (ks.length : Int) ∧ F = false ∧ E = 7 ∧ ks' = ks ∧ p = 0) ∨ (key ∉ ks ∧ (ks.length : Int) < cap ∧ F = true ∧ E = 0 ∧ ks' = ks ++ [key] ∧ p = ks.length)
theorem OutP.same {cap : Int} {ks : List (List Nat)} {key : List Nat} {p q : Nat} {F G : Bool} {E D : Int} {k1 k2 : List (List Nat)} (hnd : ks.Nodup) (h : OutP cap ks key p F E k1) (h2 : OutP cap ks key q G D k2) : p = q ∧ F = G ∧ E = D ∧ k1 = k2 := by
  rcases h with ⟨a1, rfl, rfl, rfl, a5, a6⟩ | ⟨a1, a2, rfl, rfl, rfl, rfl⟩ | ⟨a1, a2, rfl, rfl, rfl, rfl⟩ <;> rcases h2 with ⟨b1, rfl, rfl, rfl, b5, b6⟩ | ⟨b1, b2, rfl, rfl, rfl, rfl⟩ | ⟨b1, b2, rfl, rfl, rfl, rfl⟩
  · exact ⟨getD_inj hnd a5 b5 (by rw [a6, b6]), rfl, rfl, rfl⟩
  · exact absurd a1 b1
  · exact absurd a1 b1
  · exact absurd b1 a1
  · exact ⟨rfl, rfl, rfl, rfl⟩
  · omega
  · exact absurd b1 a1
  · omega
  · exact ⟨rfl, rfl, rfl, rfl⟩
theorem OutP.nodup {cap : Int} {ks : List (List Nat)} {key : List Nat} {p : Nat} {F : Bool} {E : Int} {k1 : List (List Nat)} (h : OutP cap ks key p F E k1) (hnd : ks.Nodup) : k1.Nodup := by
  rcases h with ⟨a1, rfl, rfl, rfl, a5, a6⟩ | ⟨a1, a2, rfl, rfl, rfl, rfl⟩ | ⟨a1, a2, rfl, rfl, rfl, rfl⟩
  · exact hnd
  · exact hnd
  · have := insK_nodup (key := key) hnd
    unfold insK at this
    rwa [if_neg a1] at this
theorem OutP.sub {cap : Int} {ks : List (List Nat)} {key : List Nat} {p : Nat} {F : Bool} {E : Int} {k1 : List (List Nat)} (h : OutP cap ks key p F E k1) : ∀ k ∈ k1, k ∈ ks ∨ k = key := by
  rcases h with ⟨a1, rfl, rfl, rfl, a5, a6⟩ | ⟨a1, a2, rfl, rfl, rfl, rfl⟩ | ⟨a1, a2, rfl, rfl, rfl, rfl⟩
  · exact fun k h => .inl h
  · exact fun k h => .inl h
  · intro k h
    rcases List.mem_append.1 h with h | h
    · exact .inl h
    · exact .inr (List.mem_singleton.1 h)
theorem OutP.prefix {cap : Int} {ks : List (List Nat)} {key : List Nat} {p : Nat} {F : Bool} {E : Int} {k1 : List (List Nat)} (h : OutP cap ks key p F E k1) : ks <+: k1 := by
  rcases h with ⟨a1, rfl, rfl, rfl, a5, a6⟩ | ⟨a1, a2, rfl, rfl, rfl, rfl⟩ | ⟨a1, a2, rfl, rfl, rfl, rfl⟩
  · exact List.prefix_refl _
  · exact List.prefix_refl _
  · exact List.prefix_append _ _
/-- What stays behind an Insert. -/
structure KeptT (w w' : World) (B : Nat) (ka : Option Addr) (n : Nat) (sa : Option Addr) (ka' : Option Addr) (n' : Nat) (sa' : Option Addr) : Prop where
  recd : ∀ (g : Nat) (vs : Array Value) (t : TypeId) (fr : Nat × Nat), w.heap[g]? = some (.cells vs t fr) → t ≠ 29 → t ≠ 3 → w'.heap[g]? = some (.cells vs t fr)
  map : ∀ (g : Nat) (es : Array MapEntry) (cl : Nat), w.heap[g]? = some (.map es cl) → w'.heap[g]? = some (.map es cl)
  bytes : ∀ (a : Option Addr) (l c : Nat) (y : List Nat), BytesAt w a l c y → BytesAt w' a l c y
  size : w.heap.size ≤ w'.heap.size
  other : ∀ b, b < w.heap.size → (∀ x, ka = some x → x.block ≠ b) → (∀ x, sa = some x → x.block ≠ b) → w'.heap[b]? = w.heap[b]?
  tabs : ∀ (kx : Option Addr) (nx kcx : Nat) (sx : Option Addr) (slx scx : Nat) (kx' : List (List Nat)) (sx' : List Int) (rx : List (Nat × Nat)), TabM w B kx nx kcx sx slx scx kx' sx' rx → Beside ka n sa kx nx sx → TabM w' B kx nx kcx sx slx scx kx' sx' rx
  loc : ∀ y : Addr, (ka' = some y ∨ sa' = some y) → (ka = some y ∨ sa = some y) ∨ w.heap.size ≤ y.block
  next : (ka' = ka ∧ n' = n ∧ sa' = sa) ∨ Beside ka n sa ka' n' sa'
theorem KeptT.of_below {w w' : World} (B : Nat) (ka : Option Addr) (n : Nat) (sa : Option Addr) (b : Below w.heap.size w w') : KeptT w w' B ka n sa ka n sa :=
  ⟨fun g vs t fr hg _ _ => (b.block g (Array.getElem?_eq_some_iff.1 hg).1).trans hg, fun g es cl hg => (b.block g (Array.getElem?_eq_some_iff.1 hg).1).trans hg, fun _ _ _ _ hb => hb.mono b, b.size, fun x hx _ _ => b.block x hx, fun kx nx kcx sx slx scx kx' sx' rx hx _ => hx.mono b, fun y hy => .inl hy, .inl ⟨rfl, rfl, rfl⟩⟩
/-- Where nothing new came, all that was stays, and the table is what it was. -/
def StayT (w w' : World) (F : Bool) (P : Prop) : Prop := F = false → Below w.heap.size w w' ∧ P
theorem StayT.pre {w w0 w' : World} {F : Bool} {P : Prop} (b : Below w.heap.size w w0) (h : StayT w0 w' F P) : StayT w w' F P := fun hf => ⟨below_then b (h hf).1, (h hf).2⟩
theorem StayT.next_below {w w0 w' : World} {F : Bool} {P : Prop} (h : StayT w w0 F P) (b : Below w0.heap.size w0 w') : StayT w w' F P := fun hf => ⟨below_then (h hf).1 b, (h hf).2⟩
theorem StayT.next {w w0 w' : World} {F : Bool} {P : Prop} (h : StayT w w0 F P) (b : Below w.heap.size w w0 → Below w.heap.size w w') : StayT w w' F P := fun hf => ⟨b (h hf).1, (h hf).2⟩
/-- Insert, all its endings. -/
theorem insert_all (w : World) (cap : Int) (hcap0 : 0 ≤ cap) (hcap : cap ≤ 1048576) (B : Nat) (ka : Option Addr) (n kc : Nat) (sa : Option Addr) (sl sc : Nat) (ks : List (List Nat)) (s : List Int) (rs : List (Nat × Nat)) (h : TabM w B ka n kc sa sl sc ks s rs) (hB : B ≤ w.heap.size) (ya : Option Addr) (yl yc : Nat) (key : List Nat) (hk : BytesAt w ya yl yc key) (hyl : yl ≤ 1000000) (hnd : ks.Nodup) :
    Calls Try.prog 19 #[.agg #[.int .i64 cap, .slice ka n kc, .slice sa sl sc], .slice ya yl yc] w fun e w' => ∃ (ka' : Option Addr) (n' kc' : Nat) (sa' : Option Addr) (sl' sc' : Nat) (ks' : List (List Nat)) (s' : List Int) (rs' : List (Nat × Nat)) (p : Nat) (F : Bool) (E : Int), e = .returned (.tuple #[.agg #[.int .i64 cap, .slice ka' n' kc', .slice sa' sl' sc'], .int .i64 (p : Nat), .bool F, .int .i64 E]) ∧
      TabM w' B ka' n' kc' sa' sl' sc' ks' s' rs' ∧ TabM w' B ka n kc sa sl sc ks s rs ∧ Below B w w' ∧ KeptT w w' B ka n sa ka' n' sa' ∧ OutP cap ks key p F E ks' ∧ StayT w w' F (ka' = ka ∧ n' = n ∧ kc' = kc ∧ sa' = sa ∧ sl' = sl ∧ sc' = sc) := by
  have hkl := h.rd.len
  by_cases hm : key ∈ ks
  · obtain ⟨p, hp, hpk⟩ := mem_getD hm
    refine (insert_old w cap hcap0 hcap B ka n kc sa sl sc ks s rs h hB ya yl yc key hk hyl hnd p hp hpk).mono ?_
    rintro e w' ⟨rfl, b⟩
    exact ⟨ka, n, kc, sa, sl, sc, ks, s, rs, p, false, 0, rfl, h.mono b, h.mono b, b.mono hB, .of_below _ _ _ _ b, .inl ⟨hm, rfl, rfl, rfl, hp, hpk⟩, fun _ => ⟨b, rfl, rfl, rfl, rfl, rfl, rfl⟩⟩
  by_cases hc : cap ≤ n
  · refine (insert_full w cap hcap0 hcap B ka n kc sa sl sc ks s rs h hB ya yl yc key hk hyl hm hc).mono ?_
    rintro e w' ⟨rfl, b⟩
    exact ⟨ka, n, kc, sa, sl, sc, ks, s, rs, 0, false, 7, rfl, h.mono b, h.mono b, b.mono hB, .of_below _ _ _ _ b, .inr (.inl ⟨hm, by omega, rfl, rfl, rfl, rfl⟩), fun _ => ⟨b, rfl, rfl, rfl, rfl, rfl, rfl⟩⟩
  have hnp : ∀ x : Addr, (ka = some x ∨ sa = some x) → ∃ vs t fr, w.heap[x.block]? = some (.cells vs t fr) := fun x hx => by
    rcases h.mem with ⟨_, e1, _, e2, _⟩ | ⟨kb, sb, kcur, scur, e1, e2, r⟩
    · rw [e1, e2] at hx
      rcases hx with hx | hx <;> cases hx
    · rw [e1, e2] at hx
      rcases hx with hx | hx
      · cases hx
        exact ⟨_, _, _, r.rowk⟩
      · cases hx
        exact ⟨_, _, _, r.rows⟩
  refine (insert_le2 w cap hcap0 hcap B ka n kc sa sl sc ks s rs h hB ya yl yc key hk hyl hnd (by omega)).mono ?_
  rintro e w' ⟨ka', n', kc', sa', sl', sc', s', rs', p, rfl, Hx, Ho, bx, hn', hrec, htab, hnext, ⟨hp, hpk⟩, hby, ⟨hsz, hoth⟩, hloc⟩
  rw [decide_eq_false hm]
  have hins : insK ks key = ks ++ [key] := by unfold insK; rw [if_neg hm]
  rw [hins] at Hx hp hpk
  refine ⟨ka', n', kc', sa', sl', sc', _, s', rs', p, true, 0, rfl, Hx, Ho, bx, ⟨hrec, fun g es cl hg => (hoth g (Array.getElem?_eq_some_iff.1 hg).1 ?_ ?_).trans hg, hby, hsz, hoth, htab, hloc, ?_⟩, .inr (.inr ⟨hm, by omega, rfl, rfl, rfl, ?_⟩), fun h => by cases h⟩
  · intro x hx he
    obtain ⟨vs, t, fr, h1⟩ := hnp x (.inl hx)
    rw [he, hg] at h1
    cases h1
  · intro x hx he
    obtain ⟨vs, t, fr, h1⟩ := hnp x (.inr hx)
    rw [he, hg] at h1
    cases h1
  · rcases hnext with ⟨h1, _, _, _, _, _, _, _, h2⟩ | h1
    · exact absurd h2 hm
    · exact .inr h1
  · refine Classical.byContradiction fun hne => hm ?_
    have hlt : p < ks.length := by simp at hp; omega
    rw [List.getD_eq_getElem?_getD, List.getElem?_append_left hlt, ← List.getD_eq_getElem?_getD] at hpk
    exact hpk ▸ getD_mem hlt
theorem KeptT.pre {w w0 w' : World} {B : Nat} {ka : Option Addr} {n : Nat} {sa ka' : Option Addr} {n' : Nat} {sa' : Option Addr} (b : Below w.heap.size w w0) (h : KeptT w0 w' B ka n sa ka' n' sa') : KeptT w w' B ka n sa ka' n' sa' :=
  ⟨fun g vs t fr hg h1 h2 => h.recd g vs t fr ((b.block g (Array.getElem?_eq_some_iff.1 hg).1).trans hg) h1 h2, fun g es cl hg => h.map g es cl ((b.block g (Array.getElem?_eq_some_iff.1 hg).1).trans hg), fun a l c y hb => h.bytes a l c y (hb.mono b), Nat.le_trans b.size h.size,
    fun x hx h1 h2 => (h.other x (Nat.lt_of_lt_of_le hx b.size) h1 h2).trans (b.block x hx), fun kx nx kcx sx slx scx kx' sx' rx hx hb => h.tabs kx nx kcx sx slx scx kx' sx' rx (hx.mono b) hb, fun y hy => (h.loc y hy).imp id fun h => Nat.le_trans b.size h, h.next⟩
theorem KeptT.next_below {w w0 w' : World} {B : Nat} {ka : Option Addr} {n : Nat} {sa ka' : Option Addr} {n' : Nat} {sa' : Option Addr} (h : KeptT w w0 B ka n sa ka' n' sa') (b : Below w0.heap.size w0 w') : KeptT w w' B ka n sa ka' n' sa' :=
  ⟨fun g vs t fr hg h1 h2 => (b.block g (Nat.lt_of_lt_of_le (Array.getElem?_eq_some_iff.1 hg).1 h.size)).trans (h.recd g vs t fr hg h1 h2), fun g es cl hg => (b.block g (Nat.lt_of_lt_of_le (Array.getElem?_eq_some_iff.1 hg).1 h.size)).trans (h.map g es cl hg), fun a l c y hb => (h.bytes a l c y hb).mono b, Nat.le_trans h.size b.size,
    fun x hx h1 h2 => (b.block x (Nat.lt_of_lt_of_le hx h.size)).trans (h.other x hx h1 h2), fun kx nx kcx sx slx scx kx' sx' rx hx hb => (h.tabs kx nx kcx sx slx scx kx' sx' rx hx hb).mono b, h.loc, h.next⟩
/-- Behind a store into a record that is new. -/
theorem KeptT.store {w w0 w' : World} {B : Nat} {ka : Option Addr} {n : Nat} {sa ka' : Option Addr} {n' : Nat} {sa' : Option Addr} (h : KeptT w w0 B ka n sa ka' n' sa') {g : Nat} {t : TypeId} {vs : Array Value} (hw : w.heap.size ≤ g) (hg : w0.heap[g]? = some (.cells vs t (0, 0))) (hno : NoU8 w0 g) (h1 : t ≠ 29) (h2 : t ≠ 3)
    (hs : w'.heap.size = w0.heap.size) (ho : ∀ b, b ≠ g → w'.heap[b]? = w0.heap[b]?) : KeptT w w' B ka n sa ka' n' sa' :=
  ⟨fun x vs t fr hg h1 h2 => (ho x (by have := (Array.getElem?_eq_some_iff.1 hg).1; omega)).trans (h.recd x vs t fr hg h1 h2), fun x es cl hg => (ho x (by have := (Array.getElem?_eq_some_iff.1 hg).1; omega)).trans (h.map x es cl hg), fun a l c y hb => (h.bytes a l c y hb).past (bad := fun b => b = g) (fun b hb => hb ▸ hno) (Nat.le_of_eq hs.symm) fun b _ hb => ho b hb, by rw [hs]; exact h.size,
    fun x hx h1 h2 => (ho x (by omega)).trans (h.other x hx h1 h2), fun kx nx kcx sx slx scx kx' sx' rx hx hb => (h.tabs kx nx kcx sx slx scx kx' sx' rx hx hb).offrec hg hno h1 h2 hs ho, h.loc, h.next⟩
end Go.Proofs.Ytbbdeefnooaacaa
