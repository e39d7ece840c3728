/- A table in memory, with its room; withRoom. -/
import Derived.Test.YtbbdeefnooaacaaTabF
import Derived.Laws.Cover3
namespace Go.Proofs.Ytbbdeefnooaacaa
open Go.RowKit
set_option linter.unusedVariables false
set_option linter.unusedSimpArgs false

/-- The two rows, with the room behind them. -/
structure RowsM (w : World) (B kb sb : Nat) (kcur scur : List Value) (n kc sl sc : Nat) : Prop where
  lowk : B ≤ kb
  lows : B ≤ sb
  ne : kb ≠ sb
  rowk : w.heap[kb]? = some (.cells kcur.toArray 29 (0, 0))
  rows : w.heap[sb]? = some (.cells scur.toArray 3 (0, 0))
  lenk : kcur.length = kc
  lens : scur.length = sc
  fitk : n ≤ kc
  fits : sl ≤ sc
  typk : ∀ v ∈ kcur, v = .slice none 0 0 ∨ ∃ a l c, v = .slice (some a) l c
  typs : ∀ v ∈ scur, ∃ z, v = .int .i64 z
  bigk : kc ≤ 4000000
  bigs : sc ≤ 400000000
theorem RowsM.mono {w w' : World} {B kb sb : Nat} {kcur scur : List Value} {n kc sl sc : Nat} (h : RowsM w B kb sb kcur scur n kc sl sc) (hb : Below w.heap.size w w') : RowsM w' B kb sb kcur scur n kc sl sc :=
  ⟨h.1, h.2, h.3, (hb.block kb (Array.getElem?_eq_some_iff.1 h.rowk).1).trans h.rowk, (hb.block sb (Array.getElem?_eq_some_iff.1 h.rows).1).trans h.rows, h.6, h.7, h.8, h.9, h.10, h.11, h.12, h.13⟩
/-- A table in memory. -/
structure TabM (w : World) (B : Nat) (ka : Option Addr) (n kc : Nat) (sa : Option Addr) (sl sc : Nat) (ks : List (List Nat)) (s : List Int) (rs : List (Nat × Nat)) : Prop where
  rd : TabR w ka n sa sl ks s rs
  mem : (n = 0 ∧ ka = none ∧ kc = 0 ∧ sa = none ∧ sl = 0 ∧ sc = 0) ∨ ∃ kb sb kcur scur, ka = some ⟨kb, 0, none⟩ ∧ sa = some ⟨sb, 0, none⟩ ∧ RowsM w B kb sb kcur scur n kc sl sc
theorem TabM.mono {w w' : World} {B : Nat} {ka : Option Addr} {n kc : Nat} {sa : Option Addr} {sl sc : Nat} {ks : List (List Nat)} {s : List Int} {rs : List (Nat × Nat)} (h : TabM w B ka n kc sa sl sc ks s rs) (hb : Below w.heap.size w w') : TabM w' B ka n kc sa sl sc ks s rs := by
  refine ⟨h.rd.mono hb, ?_⟩
  rcases h.mem with h0 | ⟨kb, sb, kcur, scur, h1, h2, h3⟩
  · exact .inl h0
  · exact .inr ⟨kb, sb, kcur, scur, h1, h2, h3.mono hb⟩
theorem SlotV.len_le {s : List Int} {rs : List (Nat × Nat)} (h : SlotV s rs) : s.length ≤ 68 * rs.length := by
  induction h with
  | nil => simp
  | @cons s rs g _ _ ih =>
    have := manyOf_le g rs
    rw [List.length_append, recV_len]
    simp
    omega
theorem TabM.vals {w : World} {B : Nat} {ka : Option Addr} {n kc : Nat} {sa : Option Addr} {sl sc : Nat} {ks : List (List Nat)} {s : List Int} {rs : List (Nat × Nat)} (h : TabM w B ka n kc sa sl sc ks s rs) :
    ∃ vals : List Value, vals.length = n ∧ (∀ j v, vals[j]? = some v → ∃ ad, ka = some ad ∧ w.cell? (ad.add j) = some v) ∧ (∀ v ∈ vals, v = .slice none 0 0 ∨ ∃ a l c, v = .slice (some a) l c) ∧
      (∀ i, i < n → ∃ a l c, vals[i]? = some (.slice a l c) ∧ BytesAt w a l c (ks.getD i []) ∧ a ≠ none) := by
  rcases h.mem with ⟨h0, _⟩ | ⟨kb, sb, kcur, scur, rfl, rfl, r⟩
  · exact ⟨[], h0.symm, fun j v hj => by simp at hj, fun v hv => by simp at hv, fun i hi => by omega⟩
  · have hl : n ≤ kcur.length := by rw [r.lenk]; exact r.fitk
    have hc : ∀ j v, (kcur.take n)[j]? = some v → w.cell? ⟨kb, j, none⟩ = some v := fun j v hj => by
      rw [List.getElem?_take] at hj
      split at hj
      · rw [cell_of_row _ _ _ _ _ _ r.rowk]
        simpa using hj
      · cases hj
    refine ⟨kcur.take n, by rw [List.length_take]; omega, fun j v hj => ⟨_, rfl, ?_⟩, fun v hv => r.typk v (List.mem_of_mem_take hv), fun i hi => ?_⟩
    · rw [Addr.add_lit, Nat.zero_add]
      exact hc j v hj
    · obtain ⟨kb', hk, _, hi'⟩ := h.rd.keys.resolve_left (by omega)
      cases hk
      obtain ⟨a, l, c, h1, h2, h3⟩ := hi' i hi
      refine ⟨a, l, c, ?_, h2, h3⟩
      have hi2 : i < (kcur.take n).length := by rw [List.length_take]; omega
      have := hc i _ (List.getElem?_eq_getElem hi2)
      rw [h1] at this
      rw [List.getElem?_eq_getElem hi2]
      exact this.symm
theorem IntsAt.vals {w : World} {a : Option Addr} {n : Nat} {s : List Int} (h : IntsAt w a n s) : ∀ j v, (s.map (Value.int .i64))[j]? = some v → ∃ ad, a = some ad ∧ w.cell? (ad.add j) = some v := fun j v hj => by
  have hjl : j < s.length := by have := (List.getElem?_eq_some_iff.1 hj).1; simpa using this
  obtain ⟨b, off, rfl, _, hc⟩ := h.at_.resolve_left (by have := h.len_eq; omega)
  refine ⟨_, rfl, ?_⟩
  rw [Addr.add_lit, hc j (by rw [← h.len_eq]; exact hjl), ← hj]
  simp [hjl]
theorem moved_tab {w wi : World} {B : Nat} {ka : Option Addr} {n kc : Nat} {sa : Option Addr} {sl sc size : Nat} {ks : List (List Nat)} {s : List Int} {rs : List (Nat × Nat)} (h : TabM w B ka n kc sa sl sc ks s rs) {vals : List Value} (v0 : vals.length = n) (v2 : ∀ v ∈ vals, v = .slice none 0 0 ∨ ∃ a l c, v = .slice (some a) l c)
    (v3 : ∀ i, i < n → ∃ a l c, vals[i]? = some (.slice a l c) ∧ BytesAt w a l c (ks.getD i []) ∧ a ≠ none) (hB : B ≤ w.heap.size) (hn : n < 1048576) (hsz : size ≤ 68) (bel : Below w.heap.size w wi) {kb sb : Nat} (hkb : w.heap.size ≤ kb) (hsb : w.heap.size ≤ sb) (hne : kb ≠ sb)
    (gk : wi.heap[kb]? = some (.cells (vals ++ List.replicate (2 * (n + 1) - n) (Value.slice none 0 0)).toArray 29 (0, 0))) (gs : wi.heap[sb]? = some (.cells (s.map (Value.int .i64) ++ List.replicate (2 * (sl + size) - sl) (Value.int .i64 0)).toArray 3 (0, 0))) :
    RowsM wi B kb sb (vals ++ List.replicate (2 * (n + 1) - n) (Value.slice none 0 0)) (s.map (Value.int .i64) ++ List.replicate (2 * (sl + size) - sl) (Value.int .i64 0)) n (2 * (n + 1)) sl (2 * (sl + size)) ∧ TabR wi (some ⟨kb, 0, none⟩) n (some ⟨sb, 0, none⟩) sl ks s rs := by
  have hcount := h.rd.count
  have hslen := h.rd.row.len_le
  have hsl := h.rd.slots.len_eq
  refine ⟨⟨by omega, by omega, hne, gk, gs, by rw [List.length_append, List.length_replicate]; omega, by rw [List.length_append, List.length_replicate, List.length_map]; omega, by omega, by omega, fun v hv => ?_, fun v hv => ?_, by omega, by omega⟩, ⟨⟨hsl, h.rd.slots.small, .inr ⟨sb, 0, rfl, (Array.getElem?_eq_some_iff.1 gs).1, fun i hi => ?_⟩⟩, .inr ⟨kb, rfl, (Array.getElem?_eq_some_iff.1 gk).1, fun i hi => ?_⟩, h.rd.len, h.rd.row, h.rd.hash, h.rd.small⟩⟩
  · rcases List.mem_append.1 hv with hv | hv
    · exact v2 v hv
    · exact .inl (List.eq_of_mem_replicate hv)
  · rcases List.mem_append.1 hv with hv | hv
    · obtain ⟨z, _, rfl⟩ := List.mem_map.1 hv
      exact ⟨z, rfl⟩
    · exact ⟨0, List.eq_of_mem_replicate hv⟩
  · have hi' : i < s.length := by rw [hsl]; exact hi
    rw [Nat.zero_add, cell_of_row _ _ _ _ _ _ gs]
    simp [hi', List.getElem?_append]
  · obtain ⟨a, l, c, h1, h2, h3⟩ := v3 i hi
    refine ⟨a, l, c, ?_, h2.mono bel, h3⟩
    rw [cell_of_row _ _ _ _ _ _ gk, List.getElem?_toArray, List.getElem?_append_left (by rw [v0]; exact hi)]
    exact h1
theorem eql_nil (w : World) (a : Option Addr) (l c : Nat) : (binOp .eql 29 (.slice a l c) (.slice none 0 0)).run Try.prog w = .ok (.bool a.isNone) w := by
  simp only [binOp]
  simp [run_equal_slice_nil w 29 5 a l c Try.underlying29]
/-- What withRoom gives back. -/
def RoomOut (B : Nat) (ka : Option Addr) (n kc : Nat) (sa : Option Addr) (sl sc size : Nat) (ks : List (List Nat)) (s : List Int) (rs : List (Nat × Nat)) (w : World) (e : Ending) (w' : World) : Prop :=
  ∃ kb sb kc' sc' kcur scur, e = .returned (.tuple #[.slice (some ⟨kb, 0, none⟩) n kc', .slice (some ⟨sb, 0, none⟩) sl sc']) ∧ RowsM w' B kb sb kcur scur n kc' sl sc' ∧ n < kc' ∧ sl + size ≤ sc' ∧
    TabR w' (some ⟨kb, 0, none⟩) n (some ⟨sb, 0, none⟩) sl ks s rs ∧ Below w.heap.size w w' ∧
    ((ka = some ⟨kb, 0, none⟩ ∧ sa = some ⟨sb, 0, none⟩ ∧ kc' = kc ∧ sc' = sc ∧ kcur[n]? = some (.slice none 0 0)) ∨ (w.heap.size ≤ kb ∧ w.heap.size ≤ sb))
set_option maxRecDepth 100000 in
set_option maxHeartbeats 2000000 in
theorem withRoom_any (w : World) (cap : Int) (B : Nat) (ka : Option Addr) (n kc : Nat) (sa : Option Addr) (sl sc : Nat) (ks : List (List Nat)) (s : List Int) (rs : List (Nat × Nat)) (h : TabM w B ka n kc sa sl sc ks s rs) (hB : B ≤ w.heap.size) (size : Nat) (hsz1 : 1 ≤ size) (hsz : size ≤ 68) (hn : n < 1048576) :
    Calls Try.prog 30 #[.agg #[.int .i64 cap, .slice ka n kc, .slice sa sl sc], .int .i64 (size : Nat)] w (RoomOut B ka n kc sa sl sc size ks s rs w) := by
  have hcount := h.rd.count
  have hslen := h.rd.row.len_le
  have hsl := h.rd.slots.len_eq
  have hkl := h.rd.len
  have hbig : kc ≤ 4000000 ∧ sc ≤ 400000000 ∧ n ≤ kc ∧ sl ≤ sc := by
    rcases h.mem with ⟨_, _, _, _, _, _⟩ | ⟨_, _, _, _, _, _, r⟩
    · omega
    · exact ⟨r.bigk, r.bigs, r.fitk, r.fits⟩
  obtain ⟨hbk, hbs, hfk, hfs⟩ := hbig
  have bA : ∀ o : Obj, Below w.heap.size w (w.alloc o) := fun o => (Below.refl _ _).alloc (Nat.le_refl _) _
  obtain ⟨w1, hw1⟩ : ∃ w1, w.alloc (.cells #[.int .i64 cap, .slice ka n kc, .slice sa sl sc] 28) = w1 := ⟨_, rfl⟩
  have b1 : Below w.heap.size w w1 := by rw [← hw1]; exact bA _
  have g1 : w1.heap[w.heap.size]? = some (.cells #[.int .i64 cap, .slice ka n kc, .slice sa sl sc] 28 (0, 0)) := by rw [← hw1]; exact heap_alloc_new _ _
  have z1 : w.heap.size < w1.heap.size := (Array.getElem?_eq_some_iff.1 g1).1
  have k1 : ∀ x : Later w1.heap.size w1, x.w.cell? ⟨w.heap.size, 1, none⟩ = some (.slice ka n kc) := fun x => cell_of_row _ _ 1 _ _ _ ((x.below.block _ z1).trans g1)
  have s1 : ∀ x : Later w1.heap.size w1, x.w.cell? ⟨w.heap.size, 2, none⟩ = some (.slice sa sl sc) := fun x => cell_of_row _ _ 2 _ _ _ ((x.below.block _ z1).trans g1)
  go_enter Try.func30, Try.ntmps30
  go_wp2_with fail
  refine wp_region_later w1.heap.size w1 (by kernel_rfl) (by kernel_rfl) (Below.refl _ _) ?_
  repeat (go_big_quiet_step (fail))
  refine wpQuiet_nil ?_
  intro _ hlat
  obtain ⟨x, rfl⟩ := hlat
  obtain ⟨w2, hw2⟩ : ∃ w2, x.w = w2 := ⟨_, rfl⟩
  have b2 : Below w.heap.size w w2 := by rw [← hw2]; exact below_then b1 x.below
  have g2 : w2.heap[w.heap.size]? = some (.cells #[.int .i64 cap, .slice ka n kc, .slice sa sl sc] 28 (0, 0)) := by rw [← hw2]; exact (x.below.block _ z1).trans g1
  rw [hw2]
  clear k1 s1 hw2 x b1 g1 z1 hw1 w1
  have k2 : w2.cell? ⟨w.heap.size, 1, none⟩ = some (.slice ka n kc) := cell_of_row _ _ 1 _ _ _ g2
  have s2 : w2.cell? ⟨w.heap.size, 2, none⟩ = some (.slice sa sl sc) := cell_of_row _ _ 2 _ _ _ g2
  go_upto_region 2 with fail
  go_cut [49] from 8 to 49 (fun c w' => ∃ b : Bool, c = .bool b ∧ w' = w2 ∧ (b = true → ∃ kb sb kcur scur, ka = some ⟨kb, 0, none⟩ ∧ sa = some ⟨sb, 0, none⟩ ∧ RowsM w B kb sb kcur scur n kc sl sc ∧ n < kc ∧ sl + size ≤ sc ∧ kcur[n]? = some (.slice none 0 0)))
  case first =>
    by_cases c1 : n < kc
    · have f1 : decide (n < kc) = true := by simpa using c1
      obtain ⟨kb, sb, kcur, scur, rfl, rfl, hr⟩ := h.mem.resolve_left (by omega)
      have hr2 := hr.mono b2
      obtain ⟨v, hv⟩ : ∃ v, kcur[n]? = some v := ⟨_, List.getElem?_eq_getElem (by rw [hr.lenk]; exact c1)⟩
      have kv : w2.cell? ⟨kb, n, none⟩ = some v := by rw [cell_of_row _ _ _ _ _ _ hr2.rowk]; simpa using hv
      have i1 : (n : Int) + 1 ≤ (kc : Int) := by omega
      have i2 : (0 : Int) ≤ (n : Int) + 1 := by omega
      have i3 : n + 1 ≤ kc := by omega
      rcases hr.typk v (List.mem_of_getElem? hv) with rfl | ⟨a, l, c, rfl⟩
      · have en := fun wx => eql_nil wx none 0 0
        by_cases c2 : sl + size ≤ sc
        · have f2 : decide (sl + size ≤ sc) = true := by simpa using c2
          have f2' : decide (((sl : Nat) : Int) + ((size : Nat) : Int) ≤ ((sc : Nat) : Int)) = true := by simp; omega
          obtain ⟨u, hu⟩ : ∃ u, scur[sl]? = some u := ⟨_, List.getElem?_eq_getElem (by rw [hr.lens]; omega)⟩
          obtain ⟨z, rfl⟩ := hr.typs u (List.mem_of_getElem? hu)
          have sv : w2.cell? ⟨sb, sl, none⟩ = some (.int .i64 z) := by rw [cell_of_row _ _ _ _ _ _ hr2.rows]; simpa using hu
          have j1 : (sl : Int) + 1 ≤ (sc : Int) := by omega
          have j2 : (0 : Int) ≤ (sl : Int) + 1 := by omega
          have j3 : sl + 1 ≤ sc := by omega
          by_cases c3 : z = 0
          · have f3 : decide (z = 0) = true := by simpa using c3
            go_wp2_with fail
            go_meet
            exact ⟨true, rfl, rfl, fun _ => ⟨kb, sb, kcur, scur, rfl, rfl, hr, c1, c2, hv⟩⟩
          · have f3 : decide (z = 0) = false := by simpa using c3
            have f3' : (z == 0) = false := by simpa using c3
            go_wp2_with fail
            go_meet
            exact ⟨false, rfl, rfl, nofun⟩
        · have f2 : decide (sl + size ≤ sc) = false := by simpa using c2
          have f2' : decide (((sl : Nat) : Int) + ((size : Nat) : Int) ≤ ((sc : Nat) : Int)) = false := by simp; omega
          go_wp2_with fail
          go_meet
          exact ⟨false, rfl, rfl, nofun⟩
      · have en := fun wx => eql_nil wx (some a) l c
        go_wp2_with fail
        go_meet
        exact ⟨false, rfl, rfl, nofun⟩
    · have f1 : decide (n < kc) = false := by simpa using c1
      go_wp2_with fail
      go_meet
      exact ⟨false, rfl, rfl, nofun⟩
  case rest =>
    obtain ⟨b, rfl, hwc, hfact⟩ := hcut
    rw [hwc]
    clear hwc
    cases b with
    | true =>
      obtain ⟨kb, sb, kcur, scur, rfl, rfl, hr, c1, c2, hv⟩ := hfact rfl
      have hk3 : ∀ x : Later w2.heap.size w2, x.w.cell? ⟨w.heap.size, 1, none⟩ = some (.slice (some ⟨kb, 0, none⟩) n kc) := fun x => cell_of_row _ _ 1 _ _ _ ((x.below.block _ (Array.getElem?_eq_some_iff.1 g2).1).trans g2)
      have hs3 : ∀ x : Later w2.heap.size w2, x.w.cell? ⟨w.heap.size, 2, none⟩ = some (.slice (some ⟨sb, 0, none⟩) sl sc) := fun x => cell_of_row _ _ 2 _ _ _ ((x.below.block _ (Array.getElem?_eq_some_iff.1 g2).1).trans g2)
      clear k2 s2
      go_wp2_with fail
      refine wp_region_later w2.heap.size w2 (by kernel_rfl) (by kernel_rfl) (Below.refl _ _) ?_
      repeat (go_big_quiet_step (fail))
      refine wpQuiet_nil ?_
      intro _ hlat
      obtain ⟨x, rfl⟩ := hlat
      go_wp2_with fail
      go_ret2
      have bb := below_then b2 x.below
      exact ⟨kb, sb, kc, sc, kcur, scur, rfl, hr.mono bb, c1, c2, h.rd.mono bb, bb, .inl ⟨rfl, rfl, rfl, rfl, hv⟩⟩
    | false =>
      clear hfact
      obtain ⟨vals, v0, v1, v2, v3⟩ := h.vals
      have u1 := h.rd.slots.vals
      have vone : ∀ v ∈ vals, v.oneCell' = true := fun v hv => by
        rcases v2 v hv with rfl | ⟨_, _, _, rfl⟩ <;> rfl
      have uone : ∀ v ∈ s.map (Value.int .i64), v.oneCell' = true := fun v hv => by
        obtain ⟨_, _, rfl⟩ := List.mem_map.1 hv
        rfl
      have v1' : ∀ wx, Below w.heap.size w wx → ∀ j v, vals[j]? = some v → ∃ ad, ka = some ad ∧ wx.cell? (ad.add j) = some v := fun wx hb j v hj => by
        obtain ⟨ad, ha, hc⟩ := v1 j v hj
        exact ⟨ad, ha, (hb.cell (World.block_lt_of_cell? w _ hc)).trans hc⟩
      have u1' : ∀ wx, Below w.heap.size w wx → ∀ j v, (s.map (Value.int .i64))[j]? = some v → ∃ ad, sa = some ad ∧ wx.cell? (ad.add j) = some v := fun wx hb j v hj => by
        obtain ⟨ad, ha, hc⟩ := u1 j v hj
        exact ⟨ad, ha, (hb.cell (World.block_lt_of_cell? w _ hc)).trans hc⟩
      have hz2 : w.heap.size < w2.heap.size := (Array.getElem?_eq_some_iff.1 g2).1
      have k2d : w2.drew.cell? ⟨w.heap.size, 1, none⟩ = some (.slice ka n kc) := k2
      have s2d : w2.drew.cell? ⟨w.heap.size, 2, none⟩ = some (.slice sa sl sc) := s2
      have b2d := b2.drew
      go_wp2_with fail
      go_region_held3 (fun w' => w'.cell? ⟨w.heap.size, 1, none⟩ = some (.slice ka n kc) ∧ w'.cell? ⟨w.heap.size, 2, none⟩ = some (.slice sa sl sc))
        (first | exact ⟨k2d, s2d⟩ | exact ⟨y1, y2⟩ | exact ⟨y3, y4⟩)
        (first | (go_at_call 41; refine (movedK_any _ ka n kc 1 vals v0 (v1' _ b2d) vone (by omega) (by omega)).mono ?_; rintro e wk ⟨rfl, gk, bk⟩; have y1 : wk.cell? ⟨w.heap.size, 1, none⟩ = some (.slice ka n kc) := (bk.cell (p := ⟨w.heap.size, 1, none⟩) hz2).trans k2d; have y2 : wk.cell? ⟨w.heap.size, 2, none⟩ = some (.slice sa sl sc) := (bk.cell (p := ⟨w.heap.size, 2, none⟩) hz2).trans s2d; have bk2 := below_then b2d bk) | (go_at_call 42; refine (movedI_any _ sa sl sc size (s.map (Value.int .i64)) (by rw [List.length_map]; exact hsl) (u1' _ bk2) uone (by omega) (by omega)).mono ?_; rintro e wi ⟨rfl, gi, bi⟩; have y3 : wi.cell? ⟨w.heap.size, 1, none⟩ = some (.slice ka n kc) := (bi.cell (p := ⟨w.heap.size, 1, none⟩) (Nat.lt_of_lt_of_le hz2 bk.size)).trans y1; have y4 : wi.cell? ⟨w.heap.size, 2, none⟩ = some (.slice sa sl sc) := (bi.cell (p := ⟨w.heap.size, 2, none⟩) (Nat.lt_of_lt_of_le hz2 bk.size)).trans y2))
      go_wp2_with fail
      go_ret2
      have hk : w2.heap.size < wk.heap.size := (Array.getElem?_eq_some_iff.1 gk).1
      have bb := below_then bk2 bi
      have gk' := (bi.block w2.drew.heap.size hk).trans gk
      have hb2 := b2.size
      obtain ⟨r1, r2⟩ := moved_tab (size := size) h v0 v2 v3 hB hn hsz bb (by show w.heap.size ≤ w2.heap.size; omega) (by omega) (by show w2.heap.size ≠ wk.heap.size; omega) gk' gi
      exact ⟨_, _, _, _, _, _, rfl, r1, by omega, by omega, r2, bb, .inr ⟨by show w.heap.size ≤ w2.heap.size; omega, by omega⟩⟩
end Go.Proofs.Ytbbdeefnooaacaa
