/- Keys; Insert and Find as laws want them (by gen04n.py). -/
import Derived.Test.YtkklciecdhbleaaTabK
namespace Go.Proofs.Ytkklciecdhbleaa
open Go.RowKit
set_option linter.unusedVariables false

set_option maxRecDepth 100000 in
set_option maxHeartbeats 2000000 in
theorem keys_any (w : World) (cap : Int) (ka : Option Addr) (n kc : Nat) (sa : Option Addr) (sl sc : Nat) (ks : List (List Nat)) (s : List Int) (rs : List (Nat × Nat)) (h : TabR w ka n sa sl ks s rs) (hlen : ∀ k ∈ ks, k.length ≤ 1000000) :
    Calls Try.prog 13 #[.agg #[.int .i64 cap, .slice ka n kc, .slice sa sl sc]] w fun e w' => (∃ g, e = .returned (.slice (some ⟨g, 0, none⟩) n n) ∧ RowsK w' (some ⟨g, 0, none⟩) n ks ∧ w.heap.size ≤ g) ∧ Below w.heap.size w w' := by
  have hn := h.small
  have bA : ∀ o : Obj, Below w.heap.size w (w.alloc o) := fun o => (Below.refl _ _).alloc (Nat.le_refl _) _
  have gb := heap_alloc_new w (.cells #[.int .i64 cap, .slice ka n kc, .slice sa sl sc] 30)
  obtain ⟨g, hg⟩ : ∃ g, w.heap.size + 1 = g := ⟨_, rfl⟩
  go_enter Try.func13, Try.ntmps13
  go_wp2_with (first | (at_make; refine make_room rfl _ _ 22 23 rfl Try.underlying22 (Value.slice none 0 0) 24 Try.info_row rfl n n rfl rfl (Nat.le_refl _) (by omega) ?_; intro w1 g1 z1 b1; have gb1 := (b1.block w.heap.size (by simp)).trans gb; have qk := cell_of_row _ w.heap.size 1 _ _ _ gb1; simp only [List.getElem?_toArray, List.getElem?_cons_zero, List.getElem?_cons_succ] at qk) | fail)
  rw [World.size_alloc, hg] at g1
  have bel1 := (bA (.cells #[.int .i64 cap, .slice ka n kc, .slice sa sl sc] 30)).trans (b1.mono (by simp))
  go_loopw [13] (fun i w' => ∃ (k : Nat) (cur : List Value), k ≤ n ∧ i = .int .i64 (k : Nat) ∧ w'.heap[g]? = some (.cells cur.toArray 23 (0, 0)) ∧ cur.length = n ∧ (∀ v ∈ cur, ∃ x l c, v = .slice x l c) ∧ (∀ i, i < k → ∃ x l c, cur[i]? = some (.slice x l c) ∧ BytesAt w' x l c (ks.getD i [])) ∧ Below w.heap.size w w') (fun i _ => n - (intOf i).toNat)
  case atStart => exact ⟨0, _, Nat.zero_le _, rfl, g1, List.length_replicate, (fun v hv => ⟨_, _, _, List.eq_of_mem_replicate hv⟩), (fun i hi => by omega), bel1⟩
  case round =>
    clear g1 gb1 qk bel1 z1 b1
    obtain ⟨k, cur, hk, rfl, hgc, hcl, hct, hall, bel⟩ := hrel
    by_cases hkn : k < n
    · have f1 : decide (k < n) = true := by simpa using hkn
      obtain ⟨kb, rfl, hkb, hkc⟩ := h.keys.resolve_left (by omega)
      obtain ⟨a, l, c, e1, e2, _⟩ := hkc k hkn
      have q1 : wr.cell? ⟨kb, k, none⟩ = some (.slice a l c) := (bel.cell (p := ⟨kb, k, none⟩) hkb).trans e1
      have hl : l ≤ 1000000 := by
        rw [← e2.len_eq]
        exact hlen _ (getD_mem (by rw [h.len]; exact hkn))
      have i1 : (k : Int) < (n : Int) := by omega
      go_wp2_with fail
      refine (copied_any _ a l c _ (e2.mono bel) hl).mono ?_
      rintro e w2 ⟨⟨x, c', rfl, hx⟩, b2⟩
      have hg2 := (b2.block g (Array.getElem?_eq_some_iff.1 hgc).1).trans hgc
      have q2 : w2.cell? ⟨g, k, none⟩ = some cur[k] := by
        rw [cell_of_row _ _ _ _ _ _ hg2, List.getElem?_toArray]
        exact List.getElem?_eq_getElem (by omega)
      have z2 := frozen_of_row w2 g k _ _ hg2
      have hno : NoU8 w2 g := noU8_row hg2 fun v hv m => by obtain ⟨_, _, _, rfl⟩ := hct v hv; simp
      have hgw : w.heap.size ≤ g := by omega
      have past : ∀ {a0 : Option Addr} {l0 c0 : Nat} {y0 : List Nat}, BytesAt w2 a0 l0 c0 y0 → BytesAt (w2.setCell ⟨g, k, none⟩ (.slice (some x) l c')) a0 l0 c0 y0 := fun hb => hb.past (bad := fun b => b = g) (fun b hb => hb ▸ hno) (by simp) fun b _ hb => Below.heap_setCell _ _ _ _ hb
      have hset : (w2.setCell ⟨g, k, none⟩ (.slice (some x) l c')).heap[g]? = some (.cells (cur.set k (.slice (some x) l c')).toArray 23 (0, 0)) := by
        have := Joins.block_setCell (i := k) hg2 (.slice (some x) l c')
        rw [this]
        simp
      go_wp2_with fail
      refine ⟨⟨k + 1, cur.set k (.slice (some x) l c'), by omega, by simp, hset, by simp [hcl], fun v hv => ?_, fun i hi => ?_, (below_then bel b2).setCell (by show w.heap.size ≤ g; omega) _⟩, by simp [intOf]; omega⟩
      · rcases List.mem_or_eq_of_mem_set hv with hv | rfl
        · exact hct v hv
        · exact ⟨_, _, _, rfl⟩
      · by_cases hik : i = k
        · subst hik
          exact ⟨_, _, _, List.getElem?_set_self (by omega), past hx⟩
        · obtain ⟨x', l', c'', h1, h2⟩ := hall i (by omega)
          exact ⟨x', l', c'', (List.getElem?_set_ne (fun e => hik e.symm)).trans h1, past (h2.mono b2)⟩
    · have f1 : decide (k < n) = false := by simpa using hkn
      obtain rfl : k = n := by omega
      go_wp2_with fail
      go_ret
      refine ⟨⟨g, rfl, ⟨h.len, by omega, .inr ⟨g, 0, rfl, (Array.getElem?_eq_some_iff.1 hgc).1, fun i hi => ?_⟩⟩, by omega⟩, bel⟩
      obtain ⟨x, l, c, h1, h2⟩ := hall i hi
      refine ⟨x, l, c, ?_, h2⟩
      rw [Nat.zero_add, cell_of_row _ _ _ _ _ _ hgc, List.getElem?_toArray]
      exact h1
theorem find_le (w : World) (cap : Int) (ka : Option Addr) (n kc : Nat) (sa : Option Addr) (sl sc : Nat) (ks : List (List Nat)) (s : List Int) (rs : List (Nat × Nat)) (h : TabR w ka n sa sl ks s rs) (ya : Option Addr) (yl yc : Nat) (key : List Nat) (hk : BytesAt w ya yl yc key) :
    Calls Try.prog 17 #[.agg #[.int .i64 cap, .slice ka n kc, .slice sa sl sc], .slice ya yl yc] w fun e w' => (∃ p : Nat, e = .returned (.tuple #[.int .i64 (p : Nat), .bool (decide (key ∈ ks))]) ∧ (key ∈ ks → p < ks.length ∧ ks.getD p [] = key) ∧ (key ∉ ks → p = 0)) ∧ Below w.heap.size w w' := by
  refine (find_any w cap ka n kc sa sl sc ks s rs h ya yl yc key hk).mono ?_
  rintro e w' ⟨⟨p, here, rfl, ht, hf⟩, bel⟩
  refine ⟨?_, bel⟩
  cases here with
  | true =>
    obtain ⟨h1, h2⟩ := ht rfl
    have hm : key ∈ ks := h2 ▸ getD_mem h1
    exact ⟨p, by rw [decide_eq_true hm], fun _ => ⟨h1, h2⟩, fun hn => absurd hm hn⟩
  | false =>
    obtain ⟨h1, h2⟩ := hf rfl
    have hm : key ∉ ks := fun hm => by
      obtain ⟨i, hi, he⟩ := mem_getD hm
      exact h2 i hi he
    exact ⟨p, by rw [decide_eq_false hm], fun hc => absurd hc hm, fun _ => h1⟩
def insK (ks : List (List Nat)) (key : List Nat) : List (List Nat) := if key ∈ ks then ks else ks ++ [key]
theorem insK_nodup {ks : List (List Nat)} {key : List Nat} (h : ks.Nodup) : (insK ks key).Nodup := by
  unfold insK
  split
  · exact h
  · rename_i hn
    rw [List.nodup_append]
    exact ⟨h, by simp, fun a ha b hb e => hn (by rw [← List.mem_singleton.1 hb, ← e]; exact ha)⟩
theorem insK_mem {ks : List (List Nat)} {key k : List Nat} : k ∈ insK ks key ↔ k ∈ ks ∨ k = key := by
  unfold insK
  split
  · rename_i h
    constructor
    · exact .inl
    · rintro (h1 | rfl)
      · exact h1
      · exact h
  · simp
theorem insK_len {ks : List (List Nat)} {key : List Nat} : (insK ks key).length = ks.length + (!decide (key ∈ ks)).toNat := by
  unfold insK
  by_cases h : key ∈ ks <;> simp [h]
/-- A table that keeps off another one's rows. -/
def ApartT (ka sa kx sx : Option Addr) : Prop := ∀ x y : Addr, (ka = some x ∨ sa = some x) → (kx = some y ∨ sx = some y) → x.block ≠ y.block
/-- What another table needs to stay: it is the table itself, or has a key more in the same rows, or lies apart. -/
def Beside (ka : Option Addr) (n : Nat) (sa : Option Addr) (kx : Option Addr) (nx : Nat) (sx : Option Addr) : Prop := (kx = ka ∧ sx = sa ∧ n < nx) ∨ ApartT ka sa kx sx
theorem Grown.beside {w w' : World} {B : Nat} {ka : Option Addr} {n kc : Nat} {sa : Option Addr} {sl sc kb kc' sb sl' sc' : Nat} {ks : List (List Nat)} {key : List Nat} (G : Grown w w' B ka n kc sa sl sc kb kc' sb sl' sc' ks key) {s : List Int} {rs : List (Nat × Nat)} (ht : TabM w B ka n kc sa sl sc ks s rs)
    {kx : Option Addr} {nx kcx : Nat} {sx : Option Addr} {slx scx : Nat} {kx' : List (List Nat)} {sx' : List Int} {rx : List (Nat × Nat)} (h : TabM w B kx nx kcx sx slx scx kx' sx' rx) (hb : Beside ka n sa kx nx sx) : TabM w' B kx nx kcx sx slx scx kx' sx' rx := by
  have hbytes := fun {a : Option Addr} {l c : Nat} {y : List Nat} (hb : BytesAt w a l c y) => G.bytes ht hb
  have hlt := h.lt
  have hsize := G.size
  rcases h.mem with h0 | ⟨kb0, sb0, kcur, scur, e3, e4, r⟩
  · obtain ⟨h1, h2, h3, h4, h5, h6⟩ := h0
    exact ⟨⟨⟨h.rd.slots.1, h.rd.slots.2, .inl h5⟩, .inl h1, h.rd.len, h.rd.row, h.rd.hash, h.rd.small⟩, .inl ⟨h1, h2, h3, h4, h5, h6⟩⟩
  · subst e3 e4
    have h5 := (Array.getElem?_eq_some_iff.1 r.rowk).1
    have h6 := (Array.getElem?_eq_some_iff.1 r.rows).1
    have hoff : kb0 ≠ kb ∧ kb0 ≠ sb ∧ sb0 ≠ kb ∧ sb0 ≠ sb := by
      rcases G.place with ⟨e1, e2, e5, e6, hnil⟩ | ⟨h1, h2⟩
      · rcases hb with ⟨b1, b2, b3⟩ | hap
        · rw [e1] at b1
          cases b1
          obtain ⟨b, hb1, _, hb2⟩ := h.rd.keys.resolve_left (by omega)
          cases hb1
          obtain ⟨a, l, c, h7, _, h8⟩ := hb2 n b3
          rw [hnil] at h7
          simp at h7
          exact absurd h7.1.symm h8
        · have a1 := hap ⟨kb, 0, none⟩ ⟨kb0, 0, none⟩ (.inl e1) (.inl rfl)
          have a2 := hap ⟨kb, 0, none⟩ ⟨sb0, 0, none⟩ (.inl e1) (.inr rfl)
          have a3 := hap ⟨sb, 0, none⟩ ⟨kb0, 0, none⟩ (.inr e2) (.inl rfl)
          have a4 := hap ⟨sb, 0, none⟩ ⟨sb0, 0, none⟩ (.inr e2) (.inr rfl)
          exact ⟨Ne.symm a1, Ne.symm a3, Ne.symm a2, Ne.symm a4⟩
      · refine ⟨?_, ?_, ?_, ?_⟩ <;> omega
    obtain ⟨o1, o2, o3, o4⟩ := hoff
    have gk := G.other kb0 h5 o1 o2
    have gs := G.other sb0 h6 o3 o4
    refine ⟨⟨⟨h.rd.slots.1, h.rd.slots.2, ?_⟩, ?_, h.rd.len, h.rd.row, h.rd.hash, h.rd.small⟩, .inr ⟨kb0, sb0, kcur, scur, rfl, rfl, ⟨r.1, r.2, r.3, gk.trans r.4, gs.trans r.5, r.6, r.7, r.8, r.9, r.10, r.11, r.12, r.13⟩⟩⟩
    · rcases h.rd.slots.3 with h0 | ⟨b, off, ha, hb, hc⟩
      · exact .inl h0
      · cases ha
        exact .inr ⟨sb0, 0, rfl, by omega, fun i hi => (World.cell?_of_block (a := ⟨sb0, 0 + i, none⟩) gs).trans (hc i hi)⟩
    · rcases h.rd.keys with h0 | ⟨b, ha, hb, hc⟩
      · exact .inl h0
      · cases ha
        refine .inr ⟨kb0, rfl, by omega, fun i hi => ?_⟩
        obtain ⟨a, l, c, h1, h2, h3⟩ := hc i hi
        exact ⟨a, l, c, (World.cell?_of_block (a := ⟨kb0, i, none⟩) gk).trans h1, hbytes h2, h3⟩
theorem RowsK.keep {w w' : World} {g n : Nat} {ks : List (List Nat)} (h : RowsK w (some ⟨g, 0, none⟩) n ks) (hg : w'.heap[g]? = w.heap[g]?) (hs : w.heap.size ≤ w'.heap.size) (hby : ∀ (a : Option Addr) (l c : Nat) (y : List Nat), BytesAt w a l c y → BytesAt w' a l c y) : RowsK w' (some ⟨g, 0, none⟩) n ks := by
  refine ⟨h.1, h.2, ?_⟩
  rcases h.3 with h0 | ⟨b, off, ha, hlt, hi⟩
  · exact .inl h0
  · cases ha
    refine .inr ⟨g, 0, rfl, by omega, fun i hil => ?_⟩
    obtain ⟨x, l, c, h1, h2⟩ := hi i hil
    exact ⟨x, l, c, (World.cell?_of_block (a := ⟨g, 0 + i, none⟩) hg).trans h1, hby _ _ _ _ h2⟩
/-- Insert, where there is room. -/
theorem insert_le (w : World) (cap : Int) (hcap0 : 0 ≤ cap) (hcap : cap ≤ 1048576) (B : Nat) (ka : Option Addr) (n kc : Nat) (sa : Option Addr) (sl sc : Nat) (ks : List (List Nat)) (s : List Int) (rs : List (Nat × Nat)) (h : TabM w B ka n kc sa sl sc ks s rs) (hB : B ≤ w.heap.size) (ya : Option Addr) (yl yc : Nat) (key : List Nat) (hk : BytesAt w ya yl yc key) (hyl : yl ≤ 1000000) (hnd : ks.Nodup) (hnf : (n : Nat) < cap) :
    Calls Try.prog 14 #[.agg #[.int .i64 cap, .slice ka n kc, .slice sa sl sc], .slice ya yl yc] w fun e w' => ∃ (ka' : Option Addr) (n' kc' : Nat) (sa' : Option Addr) (sl' sc' : Nat) (s' : List Int) (rs' : List (Nat × Nat)) (p : Nat), e = .returned (.tuple #[.agg #[.int .i64 cap, .slice ka' n' kc', .slice sa' sl' sc'], .int .i64 (p : Nat), .bool (!decide (key ∈ ks)), .int .i64 0]) ∧
      TabM w' B ka' n' kc' sa' sl' sc' (insK ks key) s' rs' ∧ TabM w' B ka n kc sa sl sc ks s rs ∧ Below B w w' ∧ n' = n + (!decide (key ∈ ks)).toNat ∧
      (∀ (g : Nat) (vs : Array Value) (t : TypeId) (fr : Nat × Nat), w.heap[g]? = some (.cells vs t fr) → t ≠ 23 → t ≠ 3 → w'.heap[g]? = some (.cells vs t fr)) ∧
      (∀ (kx : Option Addr) (nx kcx : Nat) (sx : Option Addr) (slx scx : Nat) (kx' : List (List Nat)) (sx' : List Int) (rx : List (Nat × Nat)), TabM w B kx nx kcx sx slx scx kx' sx' rx → Beside ka n sa kx nx sx → TabM w' B kx nx kcx sx slx scx kx' sx' rx) ∧
      ((ka' = ka ∧ n' = n ∧ kc' = kc ∧ sa' = sa ∧ sl' = sl ∧ sc' = sc ∧ s' = s ∧ rs' = rs ∧ key ∈ ks) ∨ Beside ka n sa ka' n' sa') ∧ (p < (insK ks key).length ∧ (insK ks key).getD p [] = key) ∧
      (∀ (a : Option Addr) (l c : Nat) (y : List Nat), BytesAt w a l c y → BytesAt w' a l c y) ∧ (w.heap.size ≤ w'.heap.size ∧ ∀ b, b < w.heap.size → (∀ x, ka = some x → x.block ≠ b) → (∀ x, sa = some x → x.block ≠ b) → w'.heap[b]? = w.heap[b]?) := by
  by_cases hm : key ∈ ks
  · obtain ⟨p, hp, hpk⟩ := mem_getD hm
    have e1 : insK ks key = ks := by unfold insK; rw [if_pos hm]
    rw [e1, decide_eq_true hm]
    refine (insert_old w cap hcap0 hcap B ka n kc sa sl sc ks s rs h hB ya yl yc key hk hyl hnd p hp hpk).mono ?_
    rintro e w' ⟨rfl, b⟩
    have hM := h.mono b
    exact ⟨ka, n, kc, sa, sl, sc, s, rs, p, rfl, hM, hM, b.mono hB, rfl, fun g vs t fr hg _ _ => (b.block g (Array.getElem?_eq_some_iff.1 hg).1).trans hg, fun kx nx kcx sx slx scx kx' sx' rx hx _ => hx.mono b, .inl ⟨rfl, rfl, rfl, rfl, rfl, rfl, rfl, rfl, hm⟩, ⟨hp, hpk⟩, (fun _ _ _ _ hb => hb.mono b), b.size, fun x hx _ _ => b.block x hx⟩
  · have e1 : insK ks key = ks ++ [key] := by unfold insK; rw [if_neg hm]
    rw [e1, decide_eq_false hm]
    refine (insert_new w cap hcap0 hcap B ka n kc sa sl sc ks s rs h hB ya yl yc key hk hyl hm hnf).mono ?_
    rintro e w' ⟨kb, kc', sb, sl', sc', rfl, G⟩
    obtain ⟨s', rs', T⟩ := G.tab
    have hkl := h.rd.len
    refine ⟨_, _, _, _, _, _, s', rs', n, rfl, T, G.old h, G.bel hB, rfl, fun g vs t fr hg h1 h2 => G.row h hg h1 h2, fun kx nx kcx sx slx scx kx' sx' rx hx hb => G.beside h hx hb, .inr ?_, ⟨by rw [List.length_append, hkl]; simp, by rw [List.getD_eq_getElem?_getD, List.getElem?_append_right (by omega), hkl]; simp⟩, (fun _ _ _ _ hb => G.bytes h hb), G.size, fun b hb h1 h2 => ?_⟩
    case refine_2 =>
      rcases G.place with ⟨e1, e2, _⟩ | ⟨h3, h4⟩
      · exact G.other b hb (fun e => h1 _ e1 e.symm) (fun e => h2 _ e2 e.symm)
      · exact G.other b hb (by omega) (by omega)
    rcases G.place with ⟨e1, e2, _⟩ | ⟨h1, h2⟩
    · exact .inl ⟨e1.symm, e2.symm, by omega⟩
    · refine .inr fun x y hx hy => ?_
      have hx' : x.block < w.heap.size := by
        rcases hx with hx | hx
        · exact (h.lt.1 x hx).1
        · exact (h.lt.2 x hx).1
      rcases hy with hy | hy
      · cases hy
        show x.block ≠ kb
        omega
      · cases hy
        show x.block ≠ sb
        omega
end Go.Proofs.Ytkklciecdhbleaa
