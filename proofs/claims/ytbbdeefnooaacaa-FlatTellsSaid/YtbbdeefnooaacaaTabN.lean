/- Keys; Insert and Find as laws want them (by gen04n.py). -/
import Derived.Test.YtbbdeefnooaacaaTabK
namespace Go.Proofs.Ytbbdeefnooaacaa
open Go.RowKit
set_option linter.unusedVariables false
set_option linter.unusedSimpArgs false

theorem find_le (w : World) (cap : Int) (ka : Option Addr) (n kc : Nat) (sa : Option Addr) (sl sc : Nat) (ks : List (List Nat)) (s : List Int) (rs : List (Nat × Nat)) (h : TabR w ka n sa sl ks s rs) (ya : Option Addr) (yl yc : Nat) (key : List Nat) (hk : BytesAt w ya yl yc key) :
    Calls Try.prog 26 #[.agg #[.int .i64 cap, .slice ka n kc, .slice sa sl sc], .slice ya yl yc] w fun e w' => (∃ p : Nat, e = .returned (.tuple #[.int .i64 (p : Nat), .bool (decide (key ∈ ks))]) ∧ (key ∈ ks → p < ks.length ∧ ks.getD p [] = key) ∧ (key ∉ ks → p = 0)) ∧ Below w.heap.size w w' := by
  refine (find_any w cap ka n kc sa sl sc ks s rs h ya yl yc key hk).mono ?_
  rintro e w' ⟨⟨p, here, rfl, ht, hf⟩, bel⟩
  refine ⟨?_, bel⟩
  cases here with
  | true =>
    obtain ⟨h1, h2⟩ := ht rfl
    have hm : key ∈ ks := h2 ▸ getD_mem h1
    exact ⟨p, by rw [decide_eq_true hm], fun _ => ⟨h1, h2⟩, fun hn => absurd hm hn⟩
  | false =>
    obtain ⟨h1, h2⟩ := hf rfl
    have hm : key ∉ ks := fun hm => by
      obtain ⟨i, hi, he⟩ := mem_getD hm
      exact h2 i hi he
    exact ⟨p, by rw [decide_eq_false hm], fun hc => absurd hc hm, fun _ => h1⟩
def insK (ks : List (List Nat)) (key : List Nat) : List (List Nat) := if key ∈ ks then ks else ks ++ [key]
theorem insK_nodup {ks : List (List Nat)} {key : List Nat} (h : ks.Nodup) : (insK ks key).Nodup := by
  unfold insK
  split
  · exact h
  · rename_i hn
    rw [List.nodup_append]
    exact ⟨h, by simp, fun a ha b hb e => hn (by rw [← List.mem_singleton.1 hb, ← e]; exact ha)⟩
theorem insK_mem {ks : List (List Nat)} {key k : List Nat} : k ∈ insK ks key ↔ k ∈ ks ∨ k = key := by
  unfold insK
  split
  · rename_i h
    constructor
    · exact .inl
    · rintro (h1 | rfl)
      · exact h1
      · exact h
  · simp
theorem insK_len {ks : List (List Nat)} {key : List Nat} : (insK ks key).length = ks.length + (!decide (key ∈ ks)).toNat := by
  unfold insK
  by_cases h : key ∈ ks <;> simp [h]
/-- A table that keeps off another one's rows. -/
def ApartT (ka sa kx sx : Option Addr) : Prop := ∀ x y : Addr, (ka = some x ∨ sa = some x) → (kx = some y ∨ sx = some y) → x.block ≠ y.block
/-- What another table needs to stay: it is the table itself, or has a key more in the same rows, or lies apart. -/
def Beside (ka : Option Addr) (n : Nat) (sa : Option Addr) (kx : Option Addr) (nx : Nat) (sx : Option Addr) : Prop := (kx = ka ∧ sx = sa ∧ n < nx) ∨ ApartT ka sa kx sx
theorem Grown.beside {w w' : World} {B : Nat} {ka : Option Addr} {n kc : Nat} {sa : Option Addr} {sl sc kb kc' sb sl' sc' : Nat} {ks : List (List Nat)} {key : List Nat} (G : Grown w w' B ka n kc sa sl sc kb kc' sb sl' sc' ks key) {s : List Int} {rs : List (Nat × Nat)} (ht : TabM w B ka n kc sa sl sc ks s rs)
    {kx : Option Addr} {nx kcx : Nat} {sx : Option Addr} {slx scx : Nat} {kx' : List (List Nat)} {sx' : List Int} {rx : List (Nat × Nat)} (h : TabM w B kx nx kcx sx slx scx kx' sx' rx) (hb : Beside ka n sa kx nx sx) : TabM w' B kx nx kcx sx slx scx kx' sx' rx := by
  have hbytes := fun {a : Option Addr} {l c : Nat} {y : List Nat} (hb : BytesAt w a l c y) => G.bytes ht hb
  have hlt := h.lt
  have hsize := G.size
  rcases h.mem with h0 | ⟨kb0, sb0, kcur, scur, e3, e4, r⟩
  · obtain ⟨h1, h2, h3, h4, h5, h6⟩ := h0
    exact ⟨⟨⟨h.rd.slots.1, h.rd.slots.2, .inl h5⟩, .inl h1, h.rd.len, h.rd.row, h.rd.hash, h.rd.small⟩, .inl ⟨h1, h2, h3, h4, h5, h6⟩⟩
  · subst e3 e4
    have h5 := (Array.getElem?_eq_some_iff.1 r.rowk).1
    have h6 := (Array.getElem?_eq_some_iff.1 r.rows).1
    have hoff : kb0 ≠ kb ∧ kb0 ≠ sb ∧ sb0 ≠ kb ∧ sb0 ≠ sb := by
      rcases G.place with ⟨e1, e2, e5, e6, hnil⟩ | ⟨h1, h2⟩
      · rcases hb with ⟨b1, b2, b3⟩ | hap
        · rw [e1] at b1
          cases b1
          obtain ⟨b, hb1, _, hb2⟩ := h.rd.keys.resolve_left (by omega)
          cases hb1
          obtain ⟨a, l, c, h7, _, h8⟩ := hb2 n b3
          rw [hnil] at h7
          simp at h7
          exact absurd h7.1.symm h8
        · have a1 := hap ⟨kb, 0, none⟩ ⟨kb0, 0, none⟩ (.inl e1) (.inl rfl)
          have a2 := hap ⟨kb, 0, none⟩ ⟨sb0, 0, none⟩ (.inl e1) (.inr rfl)
          have a3 := hap ⟨sb, 0, none⟩ ⟨kb0, 0, none⟩ (.inr e2) (.inl rfl)
          have a4 := hap ⟨sb, 0, none⟩ ⟨sb0, 0, none⟩ (.inr e2) (.inr rfl)
          exact ⟨Ne.symm a1, Ne.symm a3, Ne.symm a2, Ne.symm a4⟩
      · refine ⟨?_, ?_, ?_, ?_⟩ <;> omega
    obtain ⟨o1, o2, o3, o4⟩ := hoff
    have gk := G.other kb0 h5 o1 o2
    have gs := G.other sb0 h6 o3 o4
    refine ⟨⟨⟨h.rd.slots.1, h.rd.slots.2, ?_⟩, ?_, h.rd.len, h.rd.row, h.rd.hash, h.rd.small⟩, .inr ⟨kb0, sb0, kcur, scur, rfl, rfl, ⟨r.1, r.2, r.3, gk.trans r.4, gs.trans r.5, r.6, r.7, r.8, r.9, r.10, r.11, r.12, r.13⟩⟩⟩
    · rcases h.rd.slots.3 with h0 | ⟨b, off, ha, hb, hc⟩
      · exact .inl h0
      · cases ha
        exact .inr ⟨sb0, 0, rfl, by omega, fun i hi => (World.cell?_of_block (a := ⟨sb0, 0 + i, none⟩) gs).trans (hc i hi)⟩
    · rcases h.rd.keys with h0 | ⟨b, ha, hb, hc⟩
      · exact .inl h0
      · cases ha
        refine .inr ⟨kb0, rfl, by omega, fun i hi => ?_⟩
        obtain ⟨a, l, c, h1, h2, h3⟩ := hc i hi
        exact ⟨a, l, c, (World.cell?_of_block (a := ⟨kb0, i, none⟩) gk).trans h1, hbytes h2, h3⟩
theorem RowsK.keep {w w' : World} {g n : Nat} {ks : List (List Nat)} (h : RowsK w (some ⟨g, 0, none⟩) n ks) (hg : w'.heap[g]? = w.heap[g]?) (hs : w.heap.size ≤ w'.heap.size) (hby : ∀ (a : Option Addr) (l c : Nat) (y : List Nat), BytesAt w a l c y → BytesAt w' a l c y) : RowsK w' (some ⟨g, 0, none⟩) n ks := by
  refine ⟨h.1, h.2, ?_⟩
  rcases h.3 with h0 | ⟨b, off, ha, hlt, hi⟩
  · exact .inl h0
  · cases ha
    refine .inr ⟨g, 0, rfl, by omega, fun i hil => ?_⟩
    obtain ⟨x, l, c, h1, h2⟩ := hi i hil
    exact ⟨x, l, c, (World.cell?_of_block (a := ⟨g, 0 + i, none⟩) hg).trans h1, hby _ _ _ _ h2⟩
/-- Insert, where there is room. -/
theorem insert_le (w : World) (cap : Int) (hcap0 : 0 ≤ cap) (hcap : cap ≤ 1048576) (B : Nat) (ka : Option Addr) (n kc : Nat) (sa : Option Addr) (sl sc : Nat) (ks : List (List Nat)) (s : List Int) (rs : List (Nat × Nat)) (h : TabM w B ka n kc sa sl sc ks s rs) (hB : B ≤ w.heap.size) (ya : Option Addr) (yl yc : Nat) (key : List Nat) (hk : BytesAt w ya yl yc key) (hyl : yl ≤ 1000000) (hnd : ks.Nodup) (hnf : (n : Nat) < cap) :
    Calls Try.prog 19 #[.agg #[.int .i64 cap, .slice ka n kc, .slice sa sl sc], .slice ya yl yc] w fun e w' => ∃ (ka' : Option Addr) (n' kc' : Nat) (sa' : Option Addr) (sl' sc' : Nat) (s' : List Int) (rs' : List (Nat × Nat)) (p : Nat), e = .returned (.tuple #[.agg #[.int .i64 cap, .slice ka' n' kc', .slice sa' sl' sc'], .int .i64 (p : Nat), .bool (!decide (key ∈ ks)), .int .i64 0]) ∧
      TabM w' B ka' n' kc' sa' sl' sc' (insK ks key) s' rs' ∧ TabM w' B ka n kc sa sl sc ks s rs ∧ Below B w w' ∧ n' = n + (!decide (key ∈ ks)).toNat ∧
      (∀ (g : Nat) (vs : Array Value) (t : TypeId) (fr : Nat × Nat), w.heap[g]? = some (.cells vs t fr) → t ≠ 29 → t ≠ 3 → w'.heap[g]? = some (.cells vs t fr)) ∧
      (∀ (kx : Option Addr) (nx kcx : Nat) (sx : Option Addr) (slx scx : Nat) (kx' : List (List Nat)) (sx' : List Int) (rx : List (Nat × Nat)), TabM w B kx nx kcx sx slx scx kx' sx' rx → Beside ka n sa kx nx sx → TabM w' B kx nx kcx sx slx scx kx' sx' rx) ∧
      ((ka' = ka ∧ n' = n ∧ kc' = kc ∧ sa' = sa ∧ sl' = sl ∧ sc' = sc ∧ s' = s ∧ rs' = rs ∧ key ∈ ks) ∨ Beside ka n sa ka' n' sa') ∧ (p < (insK ks key).length ∧ (insK ks key).getD p [] = key) ∧
      (∀ (a : Option Addr) (l c : Nat) (y : List Nat), BytesAt w a l c y → BytesAt w' a l c y) ∧ (w.heap.size ≤ w'.heap.size ∧ ∀ b, b < w.heap.size → (∀ x, ka = some x → x.block ≠ b) → (∀ x, sa = some x → x.block ≠ b) → w'.heap[b]? = w.heap[b]?) := by
  by_cases hm : key ∈ ks
  · obtain ⟨p, hp, hpk⟩ := mem_getD hm
    have e1 : insK ks key = ks := by unfold insK; rw [if_pos hm]
    rw [e1, decide_eq_true hm]
    refine (insert_old w cap hcap0 hcap B ka n kc sa sl sc ks s rs h hB ya yl yc key hk hyl hnd p hp hpk).mono ?_
    rintro e w' ⟨rfl, b⟩
    have hM := h.mono b
    exact ⟨ka, n, kc, sa, sl, sc, s, rs, p, rfl, hM, hM, b.mono hB, rfl, fun g vs t fr hg _ _ => (b.block g (Array.getElem?_eq_some_iff.1 hg).1).trans hg, fun kx nx kcx sx slx scx kx' sx' rx hx _ => hx.mono b, .inl ⟨rfl, rfl, rfl, rfl, rfl, rfl, rfl, rfl, hm⟩, ⟨hp, hpk⟩, (fun _ _ _ _ hb => hb.mono b), b.size, fun x hx _ _ => b.block x hx⟩
  · have e1 : insK ks key = ks ++ [key] := by unfold insK; rw [if_neg hm]
    rw [e1, decide_eq_false hm]
    refine (insert_new w cap hcap0 hcap B ka n kc sa sl sc ks s rs h hB ya yl yc key hk hyl hm hnf).mono ?_
    rintro e w' ⟨kb, kc', sb, sl', sc', rfl, G⟩
    obtain ⟨s', rs', T⟩ := G.tab
    have hkl := h.rd.len
    refine ⟨_, _, _, _, _, _, s', rs', n, rfl, T, G.old h, G.bel hB, rfl, fun g vs t fr hg h1 h2 => G.row h hg h1 h2, fun kx nx kcx sx slx scx kx' sx' rx hx hb => G.beside h hx hb, .inr ?_, ⟨by rw [List.length_append, hkl]; simp, by rw [List.getD_eq_getElem?_getD, List.getElem?_append_right (by omega), hkl]; simp⟩, (fun _ _ _ _ hb => G.bytes h hb), G.size, fun b hb h1 h2 => ?_⟩
    case refine_2 =>
      rcases G.place with ⟨e1, e2, _⟩ | ⟨h3, h4⟩
      · exact G.other b hb (fun e => h1 _ e1 e.symm) (fun e => h2 _ e2 e.symm)
      · exact G.other b hb (by omega) (by omega)
    rcases G.place with ⟨e1, e2, _⟩ | ⟨h1, h2⟩
    · exact .inl ⟨e1.symm, e2.symm, by omega⟩
    · refine .inr fun x y hx hy => ?_
      have hx' : x.block < w.heap.size := by
        rcases hx with hx | hx
        · exact (h.lt.1 x hx).1
        · exact (h.lt.2 x hx).1
      rcases hy with hy | hy
      · cases hy
        show x.block ≠ kb
        omega
      · cases hy
        show x.block ≠ sb
        omega
end Go.Proofs.Ytbbdeefnooaacaa
