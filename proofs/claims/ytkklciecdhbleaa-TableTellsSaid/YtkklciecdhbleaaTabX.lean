/- Both tables side by side: what an Insert tells, Insert of each, Key of each. -/
import Derived.Test.YtkklciecdhbleaaTabKeep
import Derived.Test.YtkklciecdhbleaaTabRM
import Derived.Test.YtkklciecdhbleaaTabRK
namespace Go.Proofs.Ytkklciecdhbleaa
open Go.RowKit
set_option linter.unusedVariables false

/-- What an Insert tells, by the keys ahead. -/
def OutP (cap : Int) (ks : List (List Nat)) (key : List Nat) (p : Nat) (F : Bool) (E : Int) (ks' : List (List Nat)) : Prop :=
  (key ∈ ks ∧ F = false ∧ E = 0 ∧ ks' = ks ∧ p < ks.length ∧ ks.getD p [] = key) ∨ (key ∉ ks ∧ cap ≤ (ks.length : Int) ∧ F = false ∧ E = 7 ∧ ks' = ks ∧ p = 0) ∨ (key ∉ ks ∧ (ks.length : Int) < cap ∧ F = true ∧ E = 0 ∧ ks' = ks ++ [key] ∧ p = ks.length)
theorem OutP.same {cap : Int} {ks : List (List Nat)} {key : List Nat} {p q : Nat} {F G : Bool} {E D : Int} {k1 k2 : List (List Nat)} (hnd : ks.Nodup) (h : OutP cap ks key p F E k1) (h2 : OutP cap ks key q G D k2) : p = q ∧ F = G ∧ E = D ∧ k1 = k2 := by
  rcases h with ⟨a1, rfl, rfl, rfl, a5, a6⟩ | ⟨a1, a2, rfl, rfl, rfl, rfl⟩ | ⟨a1, a2, rfl, rfl, rfl, rfl⟩ <;> rcases h2 with ⟨b1, rfl, rfl, rfl, b5, b6⟩ | ⟨b1, b2, rfl, rfl, rfl, rfl⟩ | ⟨b1, b2, rfl, rfl, rfl, rfl⟩
  · exact ⟨getD_inj hnd a5 b5 (by rw [a6, b6]), rfl, rfl, rfl⟩
  · exact absurd a1 b1
  · exact absurd a1 b1
  · exact absurd b1 a1
  · exact ⟨rfl, rfl, rfl, rfl⟩
  · omega
  · exact absurd b1 a1
  · omega
  · exact ⟨rfl, rfl, rfl, rfl⟩
theorem OutP.nodup {cap : Int} {ks : List (List Nat)} {key : List Nat} {p : Nat} {F : Bool} {E : Int} {k1 : List (List Nat)} (h : OutP cap ks key p F E k1) (hnd : ks.Nodup) : k1.Nodup := by
  rcases h with ⟨a1, rfl, rfl, rfl, a5, a6⟩ | ⟨a1, a2, rfl, rfl, rfl, rfl⟩ | ⟨a1, a2, rfl, rfl, rfl, rfl⟩
  · exact hnd
  · exact hnd
  · have := insK_nodup (key := key) hnd
    unfold insK at this
    rwa [if_neg a1] at this
theorem OutP.short {cap : Int} {ks : List (List Nat)} {key : List Nat} {p : Nat} {F : Bool} {E : Int} {k1 : List (List Nat)} (h : OutP cap ks key p F E k1) (hl : ∀ k ∈ ks, k.length ≤ 1000000) (hk : key.length ≤ 1000000) : ∀ k ∈ k1, k.length ≤ 1000000 := by
  rcases h with ⟨a1, rfl, rfl, rfl, a5, a6⟩ | ⟨a1, a2, rfl, rfl, rfl, rfl⟩ | ⟨a1, a2, rfl, rfl, rfl, rfl⟩
  · exact hl
  · exact hl
  · intro k h
    rcases List.mem_append.1 h with h | h
    · exact hl k h
    · rw [List.mem_singleton.1 h]
      exact hk
/-- A row of keys elsewhere: off the table's rows, past block lo. -/
def DocAt (w : World) (lo : Nat) (ka sa d : Option Addr) : Prop := (∀ x y : Addr, (ka = some x ∨ sa = some x) → d = some y → x.block ≠ y.block) ∧ ∀ y : Addr, d = some y → lo < y.block ∧ y.block < w.heap.size
theorem DocAt.size {w w' : World} {lo : Nat} {ka sa d : Option Addr} (h : DocAt w lo ka sa d) (hs : w.heap.size ≤ w'.heap.size) : DocAt w' lo ka sa d := ⟨h.1, fun y hy => ⟨(h.2 y hy).1, Nat.lt_of_lt_of_le (h.2 y hy).2 hs⟩⟩
theorem RowsK.off {w w' : World} {a : Option Addr} {g n : Nat} {ks : List (List Nat)} (h : RowsK w a n ks) (hne : ∀ x, a = some x → x.block ≠ g) (hno : NoU8 w g) (hs : w'.heap.size = w.heap.size) (ho : ∀ b, b ≠ g → w'.heap[b]? = w.heap[b]?) : RowsK w' a n ks := by
  refine ⟨h.1, h.2, ?_⟩
  rcases h.3 with h3 | ⟨b, off, ha, hlt, hi⟩
  · exact .inl h3
  · have hb : b ≠ g := hne _ ha
    refine .inr ⟨b, off, ha, by omega, fun i hil => ?_⟩
    obtain ⟨x, l, c, e1, e2⟩ := hi i hil
    exact ⟨x, l, c, (World.cell?_of_block (a := ⟨b, off + i, none⟩) (ho b hb)).trans e1, e2.past (bad := fun b => b = g) (fun b hb => hb ▸ hno) (Nat.le_of_eq hs.symm) fun b _ hb => ho b hb⟩
theorem TabM.offrec {w w' : World} {B : Nat} {ka : Option Addr} {n kc : Nat} {sa : Option Addr} {sl sc : Nat} {ks : List (List Nat)} {s : List Int} {rs : List (Nat × Nat)} (h : TabM w B ka n kc sa sl sc ks s rs) {g : Nat} {t : TypeId} {vs : Array Value} (hg : w.heap[g]? = some (.cells vs t (0, 0))) (hno : NoU8 w g) (h1 : t ≠ 23) (h2 : t ≠ 3)
    (hs : w'.heap.size = w.heap.size) (ho : ∀ b, b ≠ g → w'.heap[b]? = w.heap[b]?) : TabM w' B ka n kc sa sl sc ks s rs := by
  have past : ∀ {a : Option Addr} {l c : Nat} {y : List Nat}, BytesAt w a l c y → BytesAt w' a l c y := fun hb => hb.past (bad := fun b => b = g) (fun b hb => hb ▸ hno) (Nat.le_of_eq hs.symm) fun b _ hb => ho b hb
  rcases h.mem with h0 | ⟨kb, sb, kcur, scur, e1, e2, r⟩
  · obtain ⟨rfl, rfl, rfl, rfl, rfl, rfl⟩ := h0
    exact ⟨⟨⟨h.rd.slots.1, h.rd.slots.2, .inl rfl⟩, .inl rfl, h.rd.len, h.rd.row, h.rd.hash, h.rd.small⟩, .inl ⟨rfl, rfl, rfl, rfl, rfl, rfl⟩⟩
  · have hk : kb ≠ g := by
      rintro rfl
      have := r.rowk
      rw [hg] at this
      simp at this
      exact h1 this.2
    have hsb : sb ≠ g := by
      rintro rfl
      have := r.rows
      rw [hg] at this
      simp at this
      exact h2 this.2
    subst e1 e2
    refine ⟨⟨⟨h.rd.slots.1, h.rd.slots.2, ?_⟩, ?_, h.rd.len, h.rd.row, h.rd.hash, h.rd.small⟩, .inr ⟨kb, sb, kcur, scur, rfl, rfl, ⟨r.1, r.2, r.3, (ho kb hk).trans r.4, (ho sb hsb).trans r.5, r.6, r.7, r.8, r.9, r.10, r.11, r.12, r.13⟩⟩⟩
    · rcases h.rd.slots.3 with h0 | ⟨b, off, ha, hb, hc⟩
      · exact .inl h0
      · cases ha
        exact .inr ⟨sb, 0, rfl, by rw [hs]; exact hb, fun i hi => (World.cell?_of_block (a := ⟨sb, 0 + i, none⟩) (ho sb hsb)).trans (hc i hi)⟩
    · rcases h.rd.keys with h0 | ⟨b, ha, hb, hc⟩
      · exact .inl h0
      · cases ha
        refine .inr ⟨kb, rfl, by rw [hs]; exact hb, fun i hi => ?_⟩
        obtain ⟨a, l, c, h1, h2, h3⟩ := hc i hi
        exact ⟨a, l, c, (World.cell?_of_block (a := ⟨kb, i, none⟩) (ho kb hk)).trans h1, past h2, h3⟩
/-- Insert, beside a row of keys. -/
theorem insert_doc (w : World) (cap : Int) (hcap0 : 0 ≤ cap) (hcap : cap ≤ 1048576) (B : Nat) (ka : Option Addr) (n kc : Nat) (sa : Option Addr) (sl sc : Nat) (ks : List (List Nat)) (s : List Int) (rs : List (Nat × Nat)) (h : TabM w B ka n kc sa sl sc ks s rs) (hB : B ≤ w.heap.size) (ya : Option Addr) (yl yc : Nat) (key : List Nat) (hk : BytesAt w ya yl yc key) (hyl : yl ≤ 1000000) (hnd : ks.Nodup) :
    Calls Try.prog 14 #[.agg #[.int .i64 cap, .slice ka n kc, .slice sa sl sc], .slice ya yl yc] w fun e w' => ∃ (ka' : Option Addr) (n' kc' : Nat) (sa' : Option Addr) (sl' sc' : Nat) (ks' : List (List Nat)) (s' : List Int) (rs' : List (Nat × Nat)) (p : Nat) (F : Bool) (E : Int), e = .returned (.tuple #[.agg #[.int .i64 cap, .slice ka' n' kc', .slice sa' sl' sc'], .int .i64 (p : Nat), .bool F, .int .i64 E]) ∧
      TabM w' B ka' n' kc' sa' sl' sc' ks' s' rs' ∧ Below B w w' ∧
      (∀ (g : Nat) (vs : Array Value) (t : TypeId) (fr : Nat × Nat), w.heap[g]? = some (.cells vs t fr) → t ≠ 23 → t ≠ 3 → w'.heap[g]? = some (.cells vs t fr)) ∧
      (∀ (lo : Nat) (d : Option Addr) (nd : Nat) (kd : List (List Nat)), RowsK w d nd kd → DocAt w lo ka sa d → RowsK w' d nd kd ∧ DocAt w' lo ka' sa' d) ∧ w.heap.size ≤ w'.heap.size ∧ OutP cap ks key p F E ks' := by
  have hkl := h.rd.len
  by_cases hm : key ∈ ks
  · obtain ⟨p, hp, hpk⟩ := mem_getD hm
    refine (insert_old w cap hcap0 hcap B ka n kc sa sl sc ks s rs h hB ya yl yc key hk hyl hnd p hp hpk).mono ?_
    rintro e w' ⟨rfl, b⟩
    exact ⟨ka, n, kc, sa, sl, sc, ks, s, rs, p, false, 0, rfl, h.mono b, b.mono hB, fun g vs t fr hg _ _ => (b.block g (Array.getElem?_eq_some_iff.1 hg).1).trans hg, fun lo d nd kd h1 h2 => ⟨h1.mono b, h2.size b.size⟩, b.size, .inl ⟨hm, rfl, rfl, rfl, hp, hpk⟩⟩
  by_cases hc : cap ≤ n
  · refine (insert_full w cap hcap0 hcap B ka n kc sa sl sc ks s rs h hB ya yl yc key hk hyl hm hc).mono ?_
    rintro e w' ⟨rfl, b⟩
    exact ⟨ka, n, kc, sa, sl, sc, ks, s, rs, 0, false, 7, rfl, h.mono b, b.mono hB, fun g vs t fr hg _ _ => (b.block g (Array.getElem?_eq_some_iff.1 hg).1).trans hg, fun lo d nd kd h1 h2 => ⟨h1.mono b, h2.size b.size⟩, b.size, .inr (.inl ⟨hm, by omega, rfl, rfl, rfl, rfl⟩)⟩
  refine (insert_new w cap hcap0 hcap B ka n kc sa sl sc ks s rs h hB ya yl yc key hk hyl hm (by omega)).mono ?_
  rintro e w' ⟨kb, kc', sb, sl', sc', rfl, G⟩
  obtain ⟨s', rs', T⟩ := G.tab
  refine ⟨_, _, _, _, _, _, _, s', rs', n, true, 0, rfl, T, G.bel hB, fun g vs t fr hg h1 h2 => G.row h hg h1 h2, fun lo d nd kd h1 h2 => ⟨?_, ?_, ?_⟩, G.size, .inr (.inr ⟨hm, by omega, rfl, rfl, rfl, by omega⟩)⟩
  · refine ⟨h1.1, h1.2, ?_⟩
    rcases h1.3 with h3 | ⟨b, off, ha, hlt, hi⟩
    · exact .inl h3
    · have hb : b ≠ kb ∧ b ≠ sb := by
        rcases G.place with ⟨e1, e2, _⟩ | ⟨e3, e4⟩
        · exact ⟨Ne.symm (h2.1 _ _ (.inl e1) ha), Ne.symm (h2.1 _ _ (.inr e2) ha)⟩
        · exact ⟨by omega, by omega⟩
      refine .inr ⟨b, off, ha, Nat.lt_of_lt_of_le hlt G.size, fun i hil => ?_⟩
      obtain ⟨x, l, c, e1, e2⟩ := hi i hil
      exact ⟨x, l, c, (World.cell?_of_block (a := ⟨b, off + i, none⟩) (G.other b hlt hb.1 hb.2)).trans e1, G.bytes h e2⟩
  · intro x y hx hy
    have := (h2.2 y hy).2
    rcases G.place with ⟨e1, e2, _⟩ | ⟨e3, e4⟩
    · exact h2.1 x y (hx.imp (fun h => e1.trans h) (fun h => e2.trans h)) hy
    · rcases hx with hx | hx
      · cases hx
        show kb ≠ _
        omega
      · cases hx
        show sb ≠ _
        omega
  · exact fun y hy => ⟨(h2.2 y hy).1, Nat.lt_of_lt_of_le (h2.2 y hy).2 G.size⟩
/-- The document's Insert. -/
theorem refinsert_ev (w : World) (cap : Int) (d : Option Addr) (n c : Nat) (ks : List (List Nat)) (h : RowsK w d n ks) (hn : n ≤ 1048576) (ya : Option Addr) (yl yc : Nat) (key : List Nat) (hk : BytesAt w ya yl yc key) (hyl : yl ≤ 1000000) (hnd : ks.Nodup) :
    Calls Try.prog 15 #[.agg #[.int .i64 cap, .slice d n c], .slice ya yl yc] w fun e w' => ∃ (d' : Option Addr) (n' c' : Nat) (ks' : List (List Nat)) (p : Nat) (F : Bool) (E : Int), e = .returned (.tuple #[.agg #[.int .i64 cap, .slice d' n' c'], .int .i64 (p : Nat), .bool F, .int .i64 E]) ∧ RowsK w' d' n' ks' ∧ Below w.heap.size w w' ∧ (d' = d ∨ ∃ g, d' = some ⟨g, 0, none⟩ ∧ w.heap.size ≤ g ∧ g < w'.heap.size) ∧ OutP cap ks key p F E ks' := by
  have hkl := h.len
  by_cases hm : key ∈ ks
  · obtain ⟨p, hp, hpk⟩ := mem_getD hm
    refine (refinsert_old w cap d n c ks h ya yl yc key hk hnd p hp hpk).mono ?_
    rintro e w' ⟨rfl, b⟩
    exact ⟨d, n, c, ks, p, false, 0, rfl, h.mono b, b, .inl rfl, .inl ⟨hm, rfl, rfl, rfl, hp, hpk⟩⟩
  by_cases hc : cap ≤ n
  · refine (refinsert_full w cap d n c ks h ya yl yc key hk hm hc).mono ?_
    rintro e w' ⟨rfl, b⟩
    exact ⟨d, n, c, ks, 0, false, 7, rfl, h.mono b, b, .inl rfl, .inr (.inl ⟨hm, by omega, rfl, rfl, rfl, rfl⟩)⟩
  have fin : ∀ (e : Ending) (w' : World), (∃ (g c' : Nat), e = .returned (.tuple #[.agg #[.int .i64 cap, .slice (some ⟨g, 0, none⟩) (n + 1) c'], .int .i64 (n : Nat), .bool true, .int .i64 0]) ∧ RowsK w' (some ⟨g, 0, none⟩) (n + 1) (ks ++ [key]) ∧ Below w.heap.size w w' ∧ w.heap.size ≤ g) → ∃ (d' : Option Addr) (n' c' : Nat) (ks' : List (List Nat)) (p : Nat) (F : Bool) (E : Int), e = .returned (.tuple #[.agg #[.int .i64 cap, .slice d' n' c'], .int .i64 (p : Nat), .bool F, .int .i64 E]) ∧ RowsK w' d' n' ks' ∧ Below w.heap.size w w' ∧ (d' = d ∨ ∃ g, d' = some ⟨g, 0, none⟩ ∧ w.heap.size ≤ g ∧ g < w'.heap.size) ∧ OutP cap ks key p F E ks' := by
    rintro e w' ⟨g, c', rfl, h1, h2, h3⟩
    have hg : g < w'.heap.size := by
      obtain ⟨b, off, hb, hlt, _⟩ := h1.at_.resolve_left (by omega)
      cases hb
      exact hlt
    exact ⟨_, _, _, _, n, true, 0, rfl, h1, h2, .inr ⟨g, rfl, h3, hg⟩, .inr (.inr ⟨hm, by omega, rfl, rfl, rfl, by omega⟩)⟩
  by_cases h0 : n = 0
  · by_cases y0 : yl = 0
    · exact (refinsert_new_n_y w cap d n c ks h h0 ya yl yc key hk y0 hm (by omega) hn hyl).mono fin
    · obtain ⟨yb, yo, rfl, _⟩ := hk.at_.resolve_left y0
      exact (refinsert_new_n w cap d n c ks h h0 yb yo yl yc key hk (by omega) hm (by omega) hn hyl).mono fin
  · obtain ⟨b, off, rfl, _⟩ := h.at_.resolve_left h0
    by_cases y0 : yl = 0
    · exact (refinsert_new_y w cap b off n c ks h (by omega) ya yl yc key hk y0 hm (by omega) hn hyl).mono fin
    · obtain ⟨yb, yo, rfl, _⟩ := hk.at_.resolve_left y0
      exact (refinsert_new w cap b off n c ks h (by omega) yb yo yl yc key hk (by omega) hm (by omega) hn hyl).mono fin
theorem DocAt.grow {w w' : World} {lo : Nat} {ka sa d d' : Option Addr} (h : DocAt w lo ka sa d) (hlt : ∀ y : Addr, (ka = some y ∨ sa = some y) → y.block < w.heap.size) (hlo : lo < w.heap.size) (hs : w.heap.size ≤ w'.heap.size) (hd : d' = d ∨ ∃ g, d' = some ⟨g, 0, none⟩ ∧ w.heap.size ≤ g ∧ g < w'.heap.size) : DocAt w' lo ka sa d' := by
  rcases hd with rfl | ⟨g, rfl, h1, h2⟩
  · exact h.size hs
  · refine ⟨fun x y hx hy => ?_, fun y hy => ?_⟩
    · cases hy
      have := hlt x hx
      show x.block ≠ g
      omega
    · cases hy
      exact ⟨by show lo < g; omega, h2⟩
def kAt (ks : List (List Nat)) (i : Int) : List Nat := if 0 ≤ i ∧ i < ks.length then ks.getD i.toNat [] else []
def eAt (ks : List (List Nat)) (i : Int) : Int := if 0 ≤ i ∧ i < ks.length then 0 else 10
theorem BytesAt.none_nil (w : World) : BytesAt w none 0 0 [] := ⟨rfl, by omega, (fun n hn => by cases hn), (fun _ => ⟨rfl, rfl⟩), .inl rfl⟩
theorem key_ev (w : World) (cap : Int) (ka : Option Addr) (n kc : Nat) (sa : Option Addr) (sl sc : Nat) (ks : List (List Nat)) (s : List Int) (rs : List (Nat × Nat)) (h : TabR w ka n sa sl ks s rs) (hlen : ∀ k ∈ ks, k.length ≤ 1000000) (i : Int) :
    Calls Try.prog 19 #[.agg #[.int .i64 cap, .slice ka n kc, .slice sa sl sc], .int .i64 i] w fun e w' => (∃ x l c, e = .returned (.tuple #[.slice x l c, .int .i64 (eAt ks i)]) ∧ BytesAt w' x l c (kAt ks i)) ∧ Below w.heap.size w w' := by
  have hl := h.len
  unfold eAt kAt
  by_cases hi : 0 ≤ i ∧ i < ks.length
  · rw [if_pos hi, if_pos hi]
    obtain ⟨j, rfl⟩ := Int.eq_ofNat_of_zero_le hi.1
    refine (key_ok w cap ka n kc sa sl sc ks s rs h hlen j (by omega)).mono ?_
    rintro e w' ⟨⟨x, l, c, rfl, h1⟩, b⟩
    exact ⟨⟨_, _, _, rfl, h1⟩, b⟩
  · rw [if_neg hi, if_neg hi]
    refine (key_bad w cap ka n kc _ i (by omega) h.small).mono ?_
    rintro e w' ⟨rfl, b⟩
    exact ⟨⟨_, _, _, rfl, .none_nil _⟩, b⟩
theorem refkey_ev (w : World) (cap : Int) (a : Option Addr) (n c : Nat) (ks : List (List Nat)) (h : RowsK w a n ks) (i : Int) :
    Calls Try.prog 20 #[.agg #[.int .i64 cap, .slice a n c], .int .i64 i] w fun e w' => (∃ x l c, e = .returned (.tuple #[.slice x l c, .int .i64 (eAt ks i)]) ∧ BytesAt w' x l c (kAt ks i)) ∧ Below w.heap.size w w' := by
  have hl := h.len
  unfold eAt kAt
  by_cases hi : 0 ≤ i ∧ i < ks.length
  · rw [if_pos hi, if_pos hi]
    obtain ⟨j, rfl⟩ := Int.eq_ofNat_of_zero_le hi.1
    refine (refkey_ok w cap a n c ks h j (by omega)).mono ?_
    rintro e w' ⟨⟨x, l, c, rfl, h1⟩, b⟩
    exact ⟨⟨_, _, _, rfl, h1⟩, b⟩
  · rw [if_neg hi, if_neg hi]
    refine (refkey_bad w cap a n c i (by omega)).mono ?_
    rintro e w' ⟨rfl, b⟩
    exact ⟨⟨_, _, _, rfl, .none_nil _⟩, b⟩
theorem reffind_in (ks : List (List Nat)) (hnd : ks.Nodup) (key : List Nat) : ∃ p0 : Nat, (∀ (w : World) (cap : Int) (ka : Option Addr) (n kc : Nat) (sa : Option Addr) (sl sc : Nat) (s : List Int) (rs : List (Nat × Nat)) (_ : TabR w ka n sa sl ks s rs) (ya : Option Addr) (yl yc : Nat) (_ : BytesAt w ya yl yc key),
    Calls Try.prog 17 #[.agg #[.int .i64 cap, .slice ka n kc, .slice sa sl sc], .slice ya yl yc] w fun e w' => e = .returned (.tuple #[.int .i64 (p0 : Nat), .bool (decide (key ∈ ks))]) ∧ Below w.heap.size w w') ∧
    ∀ (w : World) (cap : Int) (a : Option Addr) (n c : Nat) (_ : RowsK w a n ks) (ya : Option Addr) (yl yc : Nat) (_ : BytesAt w ya yl yc key),
    Calls Try.prog 18 #[.agg #[.int .i64 cap, .slice a n c], .slice ya yl yc] w fun e w' => e = .returned (.tuple #[.int .i64 (p0 : Nat), .bool (decide (key ∈ ks))]) ∧ Below w.heap.size w w' := by
  by_cases hm : key ∈ ks
  · obtain ⟨p0, hp, hpk⟩ := mem_getD hm
    refine ⟨p0, fun w cap ka n kc sa sl sc s rs h ya yl yc hk => (find_le w cap ka n kc sa sl sc ks s rs h ya yl yc key hk).mono ?_, fun w cap a n c h ya yl yc hk => (reffind_le w cap a n c ks h ya yl yc key hk).mono ?_⟩
    all_goals
      rintro e w' ⟨⟨q, rfl, h1, _⟩, hb⟩
      obtain ⟨hq, hqk⟩ := h1 hm
      obtain rfl : p0 = q := getD_inj hnd hp hq (by rw [hqk, hpk])
      exact ⟨rfl, hb⟩
  · refine ⟨0, fun w cap ka n kc sa sl sc s rs h ya yl yc hk => (find_le w cap ka n kc sa sl sc ks s rs h ya yl yc key hk).mono ?_, fun w cap a n c h ya yl yc hk => (reffind_le w cap a n c ks h ya yl yc key hk).mono ?_⟩
    all_goals
      rintro e w' ⟨⟨q, rfl, _, h2⟩, hb⟩
      rw [h2 hm]
      exact ⟨rfl, hb⟩
end Go.Proofs.Ytkklciecdhbleaa
