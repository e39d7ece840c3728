/- Insert (by gen04i.py). -/
import Derived.Test.YtbbdeefnooaacaaTabH
namespace Go.Proofs.Ytbbdeefnooaacaa
open Go.RowKit
set_option linter.unusedVariables false
set_option linter.unusedSimpArgs false

/-- No bytes lie in a block. -/
def NoU8 (w : World) (b : Nat) : Prop := ∀ (i : Nat) (n : Int), w.cell? ⟨b, i, none⟩ ≠ some (.int .u8 n)
theorem BytesAt.past {w w' : World} {a : Option Addr} {len cap : Nat} {l : List Nat} (h : BytesAt w a len cap l) {bad : Nat → Prop} (hbad : ∀ b, bad b → NoU8 w b) (hs : w.heap.size ≤ w'.heap.size) (ho : ∀ b, b < w.heap.size → ¬ bad b → w'.heap[b]? = w.heap[b]?) : BytesAt w' a len cap l := by
  refine ⟨h.1, h.2, h.3, h.4, ?_⟩
  rcases h.5 with h4 | ⟨b, off, ha, hlt, hc⟩
  · exact .inl h4
  · by_cases h0 : len = 0
    · exact .inl h0
    refine .inr ⟨b, off, ha, Nat.lt_of_lt_of_le hlt hs, fun i hi => ?_⟩
    have hne : ¬ bad b := fun hb => hbad b hb (off + 0) _ (hc 0 (by omega))
    rw [← hc i hi]
    exact World.cell?_of_block (ho b hlt hne)
theorem noU8_row {w : World} {b : Nat} {vs : List Value} {t : TypeId} (hg : w.heap[b]? = some (.cells vs.toArray t (0, 0))) (hv : ∀ v ∈ vs, ∀ n, v ≠ .int .u8 n) : NoU8 w b := by
  intro i n hc
  rw [cell_of_row _ _ _ _ _ _ hg, List.getElem?_toArray] at hc
  exact hv _ (List.mem_of_getElem? hc) n rfl
theorem noU8_rec {w : World} {b : Nat} {vs : Array Value} {t : TypeId} (hg : w.heap[b]? = some (.cells vs t (0, 0))) (hv : ∀ v ∈ vs.toList, ∀ n, v ≠ .int .u8 n) : NoU8 w b := noU8_row (vs := vs.toList) (by simpa using hg) hv
theorem told_take {told : List Int} {h : Nat} {rs : List (Nat × Nat)} (hl : told.length = 65) (hr : ∀ L, L < manyOf h rs → told.getD L 0 = ((latest h L rs : Nat) : Int)) : told.take (manyOf h rs) = toldV h rs := by
  have hm := manyOf_le h rs
  apply List.ext_getElem
  · rw [List.length_take, toldV, List.length_map, List.length_range]
    omega
  · intro i h1 h2
    have hi : i < manyOf h rs := by rw [toldV, List.length_map, List.length_range] at h2; exact h2
    have := hr i hi
    rw [List.getD_eq_getElem?_getD, List.getElem?_eq_getElem (by omega)] at this
    rw [List.getElem_take]
    simpa [toldV] using this
/-- A record of three cells, written cell by cell. -/
theorem three_cellU (w : World) (g : Nat) (a b c : Value) (x i : Nat) {v : Value} (hne : x ≠ g) (h : w.cell? ⟨x, i, none⟩ = some v) : (((w.setCell ⟨g, 0, none⟩ a).setCell ⟨g, 1, none⟩ b).setCell ⟨g, 2, none⟩ c).cell? ⟨x, i, none⟩ = some v := by
  rw [World.cell?_setCell_other _ _ _ _ (by simp [hne]), World.cell?_setCell_other _ _ _ _ (by simp [hne]), World.cell?_setCell_other _ _ _ _ (by simp [hne])]
  exact h
theorem three_rowU (w : World) (g : Nat) (a b c x y z : Value) (t : TypeId) (h : w.heap[g]? = some (.cells #[x, y, z] t (0, 0))) : (((w.setCell ⟨g, 0, none⟩ a).setCell ⟨g, 1, none⟩ b).setCell ⟨g, 2, none⟩ c).heap[g]? = some (.cells #[a, b, c] t (0, 0)) := by
  have h1 := Joins.block_setCell (i := 0) h a
  have h2 := Joins.block_setCell (i := 1) h1 b
  have h3 := Joins.block_setCell (i := 2) h2 c
  exact h3
theorem tab_built (c : Int) (a b : Option Addr) (l m k q : Nat) : Try.prog.built 28 [(0, .int .i64 c), (1, .slice a l k), (2, .slice b m q)] = some #[.int .i64 c, .slice a l k, .slice b m q] := by kernel_rfl
/-- What a table becomes, and where. -/
structure Grown (w w' : World) (B : Nat) (ka : Option Addr) (n kc : Nat) (sa : Option Addr) (sl sc kb kc' sb sl' sc' : Nat) (ks : List (List Nat)) (key : List Nat) : Prop where
  tab : ∃ s' rs', TabM w' B (some ⟨kb, 0, none⟩) (n + 1) kc' (some ⟨sb, 0, none⟩) sl' sc' (ks ++ [key]) s' rs'
  size : w.heap.size ≤ w'.heap.size
  other : ∀ b, b < w.heap.size → b ≠ kb → b ≠ sb → w'.heap[b]? = w.heap[b]?
  keys : ∀ i, kb < w.heap.size → i ≠ n → w'.cell? ⟨kb, i, none⟩ = w.cell? ⟨kb, i, none⟩
  slots : ∀ i, sb < w.heap.size → i < sl → w'.cell? ⟨sb, i, none⟩ = w.cell? ⟨sb, i, none⟩
  below : ∀ D, D ≤ w.heap.size → D ≤ kb → D ≤ sb → Below D w w'
  place : (ka = some ⟨kb, 0, none⟩ ∧ sa = some ⟨sb, 0, none⟩ ∧ kc' = kc ∧ sc' = sc ∧ w.cell? ⟨kb, n, none⟩ = some (.slice none 0 0)) ∨ (w.heap.size ≤ kb ∧ w.heap.size ≤ sb)
def InsOut (cap : Int) (B : Nat) (ka : Option Addr) (n kc : Nat) (sa : Option Addr) (sl sc : Nat) (ks : List (List Nat)) (key : List Nat) (w : World) (e : Ending) (w' : World) : Prop :=
  (∃ p : Nat, p < ks.length ∧ ks.getD p [] = key ∧ e = .returned (.tuple #[.agg #[.int .i64 cap, .slice ka n kc, .slice sa sl sc], .int .i64 (p : Nat), .bool false, .int .i64 0]) ∧ Below w.heap.size w w') ∨
  ((∀ i, i < ks.length → ks.getD i [] ≠ key) ∧ cap ≤ (n : Nat) ∧ e = .returned (.tuple #[.agg #[.int .i64 cap, .slice ka n kc, .slice sa sl sc], .int .i64 0, .bool false, .int .i64 7]) ∧ Below w.heap.size w w') ∨
  ((∀ i, i < ks.length → ks.getD i [] ≠ key) ∧ (n : Nat) < cap ∧ ∃ kb kc' sb sl' sc', e = .returned (.tuple #[.agg #[.int .i64 cap, .slice (some ⟨kb, 0, none⟩) (n + 1) kc', .slice (some ⟨sb, 0, none⟩) sl' sc'], .int .i64 (n : Nat), .bool true, .int .i64 0]) ∧ Grown w w' B ka n kc sa sl sc kb kc' sb sl' sc' ks key)

theorem IntsAt.row {w : World} {sb sl : Nat} {s : List Int} {scur : List Value} (h : IntsAt w (some ⟨sb, 0, none⟩) sl s) (hg : w.heap[sb]? = some (.cells scur.toArray 3 (0, 0))) (hf : sl ≤ scur.length) : scur.take sl = s.map (Value.int .i64) := by
  apply List.ext_getElem
  · rw [List.length_take, List.length_map, h.len_eq]
    omega
  · intro i h1 h2
    have hi : i < sl := by rw [List.length_map, h.len_eq] at h2; exact h2
    obtain ⟨b, off, he, _, hc⟩ := h.at_.resolve_left (by omega)
    cases he
    have := hc i hi
    rw [Nat.zero_add, cell_of_row _ _ _ _ _ _ hg, List.getElem?_toArray, List.getElem?_eq_getElem (by omega)] at this
    have h3 := Option.some.inj this
    rw [List.getElem_take, h3, List.getElem_map]
    have hl : i < s.length := by rw [h.len_eq]; exact hi
    simp [hl]
theorem get_mid {α : Type} (cur : List α) (n : Nat) (v : α) (hn : n < cur.length) (i : Nat) : (cur.take n ++ [v] ++ cur.drop (n + 1))[i]? = if i = n then some v else cur[i]? := by
  have hl : (cur.take n).length = n := by rw [List.length_take]; omega
  by_cases h1 : i < n
  · rw [if_neg (by omega), List.append_assoc, List.getElem?_append_left (by rw [hl]; exact h1), List.getElem?_take, if_pos h1]
  · by_cases h2 : i = n
    · subst h2
      rw [if_pos rfl, List.append_assoc, List.getElem?_append_right (by rw [hl]; omega), hl]
      simp
    · rw [if_neg h2, List.getElem?_append_right (by rw [List.length_append, hl]; simp; omega), List.length_append, hl, List.getElem?_drop]
      congr 1
      simp
      omega
theorem grown_of {w w4 w5 w8 : World} {B : Nat} {ka : Option Addr} {n kc : Nat} {sa : Option Addr} {sl sc : Nat} {ks : List (List Nat)} {s : List Int} {rs : List (Nat × Nat)} (h : TabM w B ka n kc sa sl sc ks s rs) (hn : n < 1048576) (b4 : Below w.heap.size w w4) {kb sb kc' sc' M : Nat} {kcur scur : List Value} (hR : RowsM w4 B kb sb kcur scur n kc' sl sc')
    (hn1 : n < kc') (hs1 : sl + (M + 3) ≤ sc') (hrd : TabR w4 (some ⟨kb, 0, none⟩) n (some ⟨sb, 0, none⟩) sl ks s rs) {key : List Nat} (hM : M = manyOf (hashS key 0) rs) (b5 : Below w4.heap.size w4 w5) {x : Addr} {yl c' : Nat} (hkb : BytesAt w5 (some x) yl c' key) {cur : List Value}
    (gk : w8.heap[kb]? = some (.cells (kcur.take n ++ [Value.slice (some x) yl c'] ++ kcur.drop (n + 1)).toArray 29 (0, 0))) (gs : w8.heap[sb]? = some (.cells cur.toArray 3 (0, 0))) (hcl : cur.length = sc') (hct : cur.take (sl + M + 3) = scur.take sl ++ ((toldV (hashS key 0) rs).reverse ++ [((M : Nat) : Int), i64V (hashS key 0), ((n : Nat) : Int)]).map (Value.int .i64)) (hcty : ∀ v ∈ cur, ∃ z, v = .int .i64 z)
    (hz : w5.heap.size ≤ w8.heap.size) {r : Nat} (ho : ∀ b, b < w5.heap.size → b ≠ kb → b ≠ sb → b ≠ r → w8.heap[b]? = w5.heap[b]?) (hr : w5.heap[r]? = some (.cells #[.int .i64 0, .slice none 0 0, .slice none 0 0] 28 (0, 0))) (hrw : w.heap.size ≤ r) (hbel : ∀ D, D ≤ w.heap.size → D ≤ kb → D ≤ sb → Below D w w8)
    (hpl : (ka = some ⟨kb, 0, none⟩ ∧ sa = some ⟨sb, 0, none⟩ ∧ kc' = kc ∧ sc' = sc ∧ kcur[n]? = some (.slice none 0 0)) ∨ (w.heap.size ≤ kb ∧ w.heap.size ≤ sb)) :
    Grown w w8 B ka n kc sa sl sc kb kc' sb (sl + M + 3) sc' ks key := by
  have hcount := hrd.count
  have hsl := hrd.slots.len_eq
  have hkl := hrd.len
  have hrow := hrd.slots.row hR.rows (by rw [hR.lens]; exact hR.fits)
  have hnl : n < kcur.length := by rw [hR.lenk]; exact hn1
  have hbig1 := hR.bigs
  have hbig2 := hR.bigk
  have hR5 := hR.mono b5
  have hrd5 := hrd.mono b5
  have hs' : cur.take (sl + M + 3) = (s ++ recV (hashS key 0) rs).map (Value.int .i64) := by
    rw [hct, hrow, ← List.map_append, recV, ← hM, hcount]
  have hlen' : (s ++ recV (hashS key 0) rs).length = sl + M + 3 := by rw [List.length_append, recV_len, hsl, ← hM]; omega
  have hno8 : ∀ b, (b = kb ∨ b = sb ∨ b = r) → NoU8 w5 b := by
    rintro b (rfl | rfl | rfl)
    · exact noU8_row hR5.rowk fun v hv m => by rcases hR.typk v hv with rfl | ⟨_, _, _, rfl⟩ <;> simp
    · exact noU8_row hR5.rows fun v hv m => by obtain ⟨z, rfl⟩ := hR.typs v hv; simp
    · exact noU8_rec hr fun v hv m => by simp at hv; rcases hv with rfl | rfl | rfl <;> simp
  have past : ∀ {a : Option Addr} {l c : Nat} {y : List Nat}, BytesAt w5 a l c y → BytesAt w8 a l c y := fun hb => hb.past hno8 hz fun b hb1 hb2 => ho b hb1 (fun e => hb2 (.inl e)) (fun e => hb2 (.inr (.inl e))) (fun e => hb2 (.inr (.inr e)))
  have hk8 : ∀ i, w8.cell? ⟨kb, i, none⟩ = if i = n then some (.slice (some x) yl c') else kcur[i]? := fun i => by
    rw [cell_of_row _ _ _ _ _ _ gk, List.getElem?_toArray]
    exact get_mid kcur n _ hnl i
  have hs8 : ∀ i, w8.cell? ⟨sb, i, none⟩ = cur[i]? := fun i => by rw [cell_of_row _ _ _ _ _ _ gs, List.getElem?_toArray]
  refine ⟨⟨s ++ recV (hashS key 0) rs, _, ⟨⟨⟨hlen', by omega, .inr ⟨sb, 0, rfl, (Array.getElem?_eq_some_iff.1 gs).1, fun i hi => ?_⟩⟩, .inr ⟨kb, rfl, (Array.getElem?_eq_some_iff.1 gk).1, fun i hi => ?_⟩, by rw [List.length_append, hkl]; rfl, hrd.row.cons (hashS_lt key 0), ?_, by omega⟩, .inr ⟨kb, sb, _, cur, rfl, rfl, ⟨hR.lowk, hR.lows, hR.ne, gk, gs, ?_, hcl, by omega, by omega, fun v hv => ?_, hcty, hR.bigk, hR.bigs⟩⟩⟩⟩, ?_, fun b hb h1 h2 => ?_, fun i hi hin => ?_, fun i hi hil => ?_, hbel, ?_⟩
  · rw [Nat.zero_add, hs8]
    have h1 : (cur.take (sl + M + 3))[i]? = some (.int .i64 ((s ++ recV (hashS key 0) rs).getD i 0)) := by
      rw [hs', List.getElem?_map, List.getD_eq_getElem?_getD, List.getElem?_eq_getElem (by rw [hlen']; exact hi)]
      rfl
    rw [List.getElem?_take, if_pos hi] at h1
    exact h1
  · rw [hk8]
    by_cases hin : i = n
    · subst hin
      rw [if_pos rfl]
      refine ⟨_, _, _, rfl, ?_, by simp⟩
      have : (ks ++ [key]).getD i [] = key := by rw [List.getD_eq_getElem?_getD, List.getElem?_append_right (by omega), hkl]; simp
      rw [this]
      exact past hkb
    · rw [if_neg hin]
      obtain ⟨kb', hkk, _, hi'⟩ := hrd5.keys.resolve_left (by omega)
      cases hkk
      obtain ⟨a, l, c, h1, h2, h3⟩ := hi' i (by omega)
      rw [cell_of_row _ _ _ _ _ _ hR5.rowk, List.getElem?_toArray] at h1
      refine ⟨a, l, c, h1, ?_, h3⟩
      have : (ks ++ [key]).getD i [] = ks.getD i [] := by rw [List.getD_eq_getElem?_getD, List.getElem?_append_left (by omega), ← List.getD_eq_getElem?_getD]
      rw [this]
      exact past h2
  · rw [List.map_cons, hrd.hash, List.map_append, List.reverse_append]
    rfl
  · rw [List.length_append, List.length_append, List.length_take, List.length_drop, List.length_singleton, hR.lenk]
    omega
  · rcases List.mem_append.1 hv with hv | hv
    · rcases List.mem_append.1 hv with hv | hv
      · exact hR.typk v (List.mem_of_mem_take hv)
      · exact .inr ⟨_, _, _, List.mem_singleton.1 hv⟩
    · exact hR.typk v (List.mem_of_mem_drop hv)
  · have := b4.size
    have := b5.size
    omega
  · have h4 := b4.size
    have h5 := b5.size
    exact (ho b (by omega) h1 h2 (by omega)).trans ((b5.block b (by omega)).trans (b4.block b hb))
  · rw [hk8, if_neg hin, ← b4.cell (p := ⟨kb, i, none⟩) hi, cell_of_row _ _ _ _ _ _ hR.rowk, List.getElem?_toArray]
  · rw [hs8, ← b4.cell (p := ⟨sb, i, none⟩) hi, cell_of_row _ _ _ _ _ _ hR.rows, List.getElem?_toArray]
    have h1 : (cur.take (sl + M + 3))[i]? = (scur.take sl)[i]? := by
      rw [hct, List.getElem?_append_left (by rw [List.length_take, hR.lens]; have := hR.fits; omega)]
    rw [List.getElem?_take, if_pos (by omega), List.getElem?_take, if_pos hil] at h1
    exact h1
  · rcases hpl with ⟨e1, e2, e3, e4, e5⟩ | hf
    · refine .inl ⟨e1, e2, e3, e4, ?_⟩
      rcases h.mem with ⟨_, e, _⟩ | ⟨kb0, sb0, kc0, sc0, e6, _, r0⟩
      · rw [e1] at e
        cases e
      · rw [e1] at e6
        cases e6
        have hlt := (Array.getElem?_eq_some_iff.1 r0.rowk).1
        rw [← b4.cell (p := ⟨kb, n, none⟩) hlt, cell_of_row _ _ _ _ _ _ hR.rowk, List.getElem?_toArray]
        exact e5
    · exact .inr hf

set_option maxRecDepth 100000 in
set_option maxHeartbeats 4000000 in
theorem insert_any (w : World) (cap : Int) (hcap0 : 0 ≤ cap) (hcap : cap ≤ 1048576) (B : Nat) (ka : Option Addr) (n kc : Nat) (sa : Option Addr) (sl sc : Nat) (ks : List (List Nat)) (s : List Int) (rs : List (Nat × Nat)) (h : TabM w B ka n kc sa sl sc ks s rs) (hB : B ≤ w.heap.size) (ya : Option Addr) (yl yc : Nat) (key : List Nat) (hk : BytesAt w ya yl yc key) (hyl : yl ≤ 1000000) :
    Calls Try.prog 19 #[.agg #[.int .i64 cap, .slice ka n kc, .slice sa sl sc], .slice ya yl yc] w (InsOut cap B ka n kc sa sl sc ks key w) := by
  have bA : ∀ o o' : Obj, Below w.heap.size w ((w.alloc o).alloc o') := fun o o' => ((Below.refl _ _).alloc (Nat.le_refl _) _).alloc (by simp) _
  have hnk := h.rd.len
  have hn20 := h.rd.small
  go_enter Try.func19, Try.ntmps19
  go_wp2_with fail
  refine (seek_any _ cap ka n kc sa sl sc ks s rs (h.rd.mono (bA _ _)) ya yl yc key (hk.mono (bA _ _))).mono ?_
  rintro e w1 ⟨⟨at_, here, many, told, rfl, hl65, hm65, ht, hf⟩, b1⟩
  have bel := below_then (bA _ _) b1
  have gb := (b1.block w.heap.size (by simp; omega)).trans (heap2a w _ _)
  have gr := (b1.block (w.heap.size + 1) (by simp)).trans (heap2b w _ _)
  have hz1 : w.heap.size + 2 ≤ w1.heap.size := Nat.le_trans (by simp) b1.size
  have gn := heap_alloc_new w1 (.cells (trailRow 0 false 0 0 (List.replicate 65 0)) 74)
  have A1 := (Below.refl w1.heap.size w1).alloc (Nat.le_refl _) (.cells (trailRow 0 false 0 0 (List.replicate 65 0)) 74)
  go_upto_region 2 with (first | (refine wpList_alloc_row rfl 74 rfl _ (trail_zero _) ?_) | (refine store_rec rfl 74 (.tmp 8) (.tmp 14) rfl w1.heap.size (trailRow (at_ : Nat) here (hashS key 0) many told) rfl rfl 74 _ gn (trail_size _ _ _ _ _ hl65) (by simp [trailRow, hl65]) (trail_one _ _ _ _ _) ?_; intro w2 g2 z2 o2 b2))
  have hT : TrailAt w2 w1.heap.size (at_ : Nat) here (hashS key 0) many told := g2
  have gb2 := (o2 w.heap.size (by omega)).trans ((A1.block w.heap.size (by omega)).trans gb)
  have gr2 := (o2 (w.heap.size + 1) (by omega)).trans ((A1.block (w.heap.size + 1) (by omega)).trans gr)
  replace bel := (below_then bel A1).trans (b2.mono (by omega))
  obtain ⟨gT, hgT⟩ : ∃ gT, w1.heap.size = gT := ⟨_, rfl⟩
  rw [hgT] at hT hz1 ⊢
  clear gn A1 z2 o2 b2 g2 gb gr b1 hgT
  have t0 : w2.cell? ⟨gT, 0, none⟩ = some (.int .i64 (at_ : Nat)) := cell_of_row _ _ 0 _ _ _ hT
  have t1 : w2.cell? ⟨gT, 1, none⟩ = some (.bool here) := cell_of_row _ _ 1 _ _ _ hT
  go_wp2_with fail
  refine (found_any _ _ _).mono ?_
  rintro e w3 ⟨rfl, b3⟩
  clear t0 t1
  replace hT := hT.mono b3
  replace gb2 := (b3.block w.heap.size (Array.getElem?_eq_some_iff.1 gb2).1).trans gb2
  replace gr2 := (b3.block (w.heap.size + 1) (Array.getElem?_eq_some_iff.1 gr2).1).trans gr2
  replace bel := below_then bel b3
  clear b3
  cases here with
  | true =>
    obtain ⟨hp1, hp2⟩ := ht rfl
    clear ht hf
    have hgbz : w.heap.size < w3.heap.size := (Array.getElem?_eq_some_iff.1 gb2).1
    have hgrz : w.heap.size + 1 < w3.heap.size := (Array.getElem?_eq_some_iff.1 gr2).1
    have hgTz := hT.lt
    have x0 : w3.drew.cell? ⟨w.heap.size, 0, none⟩ = some (.int .i64 cap) := cell_of_row w3 _ 0 _ _ _ gb2
    have x1 : w3.drew.cell? ⟨w.heap.size, 1, none⟩ = some (.slice ka n kc) := cell_of_row w3 _ 1 _ _ _ gb2
    have x2 : w3.drew.cell? ⟨w.heap.size, 2, none⟩ = some (.slice sa sl sc) := cell_of_row w3 _ 2 _ _ _ gb2
    have x3 : w3.drew.cell? ⟨gT, 0, none⟩ = some (.int .i64 (at_ : Nat)) := cell_of_row w3 _ 0 _ _ _ hT
    have x4 : w3.drew.cell? ⟨gT, 1, none⟩ = some (.bool true) := cell_of_row w3 _ 1 _ _ _ hT
    have v0 : w3.drew.cell? ⟨w.heap.size + 1, 0, none⟩ = some (.int .i64 0) := cell_of_row w3 _ 0 _ _ _ gr2
    have v1 : w3.drew.cell? ⟨w.heap.size + 1, 1, none⟩ = some (.slice none 0 0) := cell_of_row w3 _ 1 _ _ _ gr2
    have v2 : w3.drew.cell? ⟨w.heap.size + 1, 2, none⟩ = some (.slice none 0 0) := cell_of_row w3 _ 2 _ _ _ gr2
    have y0 := frozen_of_row w3 (w.heap.size + 1) 0 _ _ gr2
    have y1 := frozen_of_row w3 (w.heap.size + 1) 1 _ _ gr2
    have y2 := frozen_of_row w3 (w.heap.size + 1) 2 _ _ gr2
    have hgr0 : w3.drew.heap[w.heap.size + 1]? = some (.cells #[.int .i64 0, .slice none 0 0, .slice none 0 0] 28 (0, 0)) := gr2
    have hC := three_rowU w3.drew (w.heap.size + 1) (.int .i64 cap) (.slice ka n kc) (.slice sa sl sc) _ _ _ _ hgr0
    have z0 := three_cellU w3.drew (w.heap.size + 1) (.int .i64 cap) (.slice ka n kc) (.slice sa sl sc) _ _ (show w.heap.size ≠ w.heap.size + 1 by omega) x0
    have z1 := three_cellU w3.drew (w.heap.size + 1) (.int .i64 cap) (.slice ka n kc) (.slice sa sl sc) _ _ (show w.heap.size ≠ w.heap.size + 1 by omega) x1
    have z2 := three_cellU w3.drew (w.heap.size + 1) (.int .i64 cap) (.slice ka n kc) (.slice sa sl sc) _ _ (show w.heap.size ≠ w.heap.size + 1 by omega) x2
    have z3 := three_cellU w3.drew (w.heap.size + 1) (.int .i64 cap) (.slice ka n kc) (.slice sa sl sc) _ _ (show gT ≠ w.heap.size + 1 by omega) x3
    have z4 := three_cellU w3.drew (w.heap.size + 1) (.int .i64 cap) (.slice ka n kc) (.slice sa sl sc) _ _ (show gT ≠ w.heap.size + 1 by omega) x4
    have bC : Below w.heap.size w (((w3.drew.setCell ⟨w.heap.size + 1, 0, none⟩ (.int .i64 cap)).setCell ⟨w.heap.size + 1, 1, none⟩ (.slice ka n kc)).setCell ⟨w.heap.size + 1, 2, none⟩ (.slice sa sl sc)) := ((bel.drew.setCell (by show w.heap.size ≤ w.heap.size + 1; omega) _).setCell (by show w.heap.size ≤ w.heap.size + 1; omega) _).setCell (by show w.heap.size ≤ w.heap.size + 1; omega) _
    go_wp2_with fail
    go_region_held3 (fun w' => w'.cell? ⟨w.heap.size, 0, none⟩ = some (.int .i64 cap) ∧ w'.cell? ⟨w.heap.size, 1, none⟩ = some (.slice ka n kc) ∧ w'.cell? ⟨w.heap.size, 2, none⟩ = some (.slice sa sl sc) ∧ w'.cell? ⟨gT, 0, none⟩ = some (.int .i64 (at_ : Nat)) ∧ w'.cell? ⟨gT, 1, none⟩ = some (.bool true))
      (first | with_reducible exact ⟨x0, x1, x2, x3, x4⟩ | with_reducible exact ⟨p0, p1, p2, p3, p4⟩ | with_reducible exact ⟨z0, z1, z2, z3, z4⟩ | (refine ⟨?_, ?_, ?_, ?_, ?_⟩; with_reducible exact three_cellU _ _ _ _ _ _ _ (by omega) p0; with_reducible exact three_cellU _ _ _ _ _ _ _ (by omega) p1; with_reducible exact three_cellU _ _ _ _ _ _ _ (by omega) p2; with_reducible exact three_cellU _ _ _ _ _ _ _ (by omega) p3; with_reducible exact three_cellU _ _ _ _ _ _ _ (by omega) p4))
      (first | (go_at_call 29; refine (place_any w3.drew _ _).mono ?_; rintro e wp ⟨rfl, bp⟩; have p0 := (bp.cell (p := ⟨w.heap.size, 0, none⟩) hgbz).trans x0; have p1 := (bp.cell (p := ⟨w.heap.size, 1, none⟩) hgbz).trans x1; have p2 := (bp.cell (p := ⟨w.heap.size, 2, none⟩) hgbz).trans x2; have p3 := (bp.cell (p := ⟨gT, 0, none⟩) hgTz).trans x3; have p4 := (bp.cell (p := ⟨gT, 1, none⟩) hgTz).trans x4; have gp := (bp.block (w.heap.size + 1) hgrz).trans hgr0; have u0 := cell_of_row wp (w.heap.size + 1) 0 _ _ _ gp; have u1 := cell_of_row wp (w.heap.size + 1) 1 _ _ _ gp; have u2 := cell_of_row wp (w.heap.size + 1) 2 _ _ _ gp; simp at u0 u1 u2; have k0 := frozen_of_row wp (w.heap.size + 1) 0 _ _ gp; have k1 := frozen_of_row wp (w.heap.size + 1) 1 _ _ gp; have k2 := frozen_of_row wp (w.heap.size + 1) 2 _ _ gp; have hgp := three_rowU wp (w.heap.size + 1) (.int .i64 cap) (.slice ka n kc) (.slice sa sl sc) _ _ _ _ gp; have bp2 := (((below_then bel.drew bp).setCell (p := ⟨w.heap.size + 1, 0, none⟩) (by show w.heap.size ≤ w.heap.size + 1; omega) (.int .i64 cap)).setCell (p := ⟨w.heap.size + 1, 1, none⟩) (by show w.heap.size ≤ w.heap.size + 1; omega) (.slice ka n kc)).setCell (p := ⟨w.heap.size + 1, 2, none⟩) (by show w.heap.size ≤ w.heap.size + 1; omega) (.slice sa sl sc)) | (go_at_call 29; refine (place_any _ _ _).mono ?_; rintro e wp ⟨rfl, bp⟩; have p0 := (bp.cell (p := ⟨w.heap.size, 0, none⟩) (World.block_lt_of_cell? _ _ z0)).trans z0; have p1 := (bp.cell (p := ⟨w.heap.size, 1, none⟩) (World.block_lt_of_cell? _ _ z0)).trans z1; have p2 := (bp.cell (p := ⟨w.heap.size, 2, none⟩) (World.block_lt_of_cell? _ _ z0)).trans z2; have p3 := (bp.cell (p := ⟨gT, 0, none⟩) (World.block_lt_of_cell? _ _ z3)).trans z3; have p4 := (bp.cell (p := ⟨gT, 1, none⟩) (World.block_lt_of_cell? _ _ z3)).trans z4; have hgp := (bp.block (w.heap.size + 1) (Array.getElem?_eq_some_iff.1 hC).1).trans hC; have bp2 := below_then bC bp))
    all_goals
      have q0 := cell_of_row _ (w.heap.size + 1) 0 _ _ _ hgp
      have q1 := cell_of_row _ (w.heap.size + 1) 1 _ _ _ hgp
      have q2 := cell_of_row _ (w.heap.size + 1) 2 _ _ _ hgp
      simp only [List.getElem?_toArray, List.getElem?_cons_zero, List.getElem?_cons_succ] at q0 q1 q2
      go_wp2_with fail
      exact bodyPost_ret (v := .tuple #[.agg #[.int .i64 cap, .slice ka n kc, .slice sa sl sc], .int .i64 (at_ : Nat), .bool false, .int .i64 0]) (by simp [results, Try.results19, go_sem, q0, q1, q2]) rfl (.inl ⟨at_, hp1, hp2, rfl, bp2⟩)
  | false =>
    obtain ⟨rfl, hno, hmany, htold⟩ := hf rfl
    have HMN := Lib.hid hmany
    clear ht hf hmany
    have cK : w3.cell? ⟨w.heap.size, 1, none⟩ = some (.slice ka n kc) := cell_of_row _ _ 1 _ _ _ gb2
    have cC : w3.cell? ⟨w.heap.size, 0, none⟩ = some (.int .i64 cap) := cell_of_row _ _ 0 _ _ _ gb2
    by_cases hfull : cap ≤ (n : Nat)
    · have f1 : decide (cap ≤ ((n : Nat) : Int)) = true := by simpa using hfull
      go_wp2_with (first | (refine wpList_load_row rfl 28 _ rfl w.heap.size rfl 28 _ _ _ gb2 Try.underlying28 rfl (by kernel_rfl) ?_) | (refine store_rec rfl 28 (.tmp 4) (.tmp 29) rfl (w.heap.size + 1) #[.int .i64 cap, .slice ka n kc, .slice sa sl sc] rfl rfl 28 _ gr2 (by kernel_rfl) rfl (by simp [Value.oneCell']) ?_; intro w6 g6 z6 o6 b6))
      have q0 := cell_of_row w6 (w.heap.size + 1) 0 _ _ _ g6
      have q1 := cell_of_row w6 (w.heap.size + 1) 1 _ _ _ g6
      have q2 := cell_of_row w6 (w.heap.size + 1) 2 _ _ _ g6
      simp at q0 q1 q2
      exact bodyPost_ret (v := .tuple #[.agg #[.int .i64 cap, .slice ka n kc, .slice sa sl sc], .int .i64 0, .bool false, .int .i64 7]) (by simp [results, Try.results19, go_sem, q0, q1, q2]) rfl (.inr (.inl ⟨hno, hfull, rfl, bel.trans (b6.mono (by omega))⟩))
    · have f1 : decide (cap ≤ ((n : Nat) : Int)) = false := by simpa using hfull
      have hn2 : n < 1048576 := by omega
      have x0 : w3.drew.cell? ⟨w.heap.size, 0, none⟩ = some (.int .i64 cap) := cell_of_row w3 _ 0 _ _ _ gb2
      have x1 : w3.drew.cell? ⟨w.heap.size, 1, none⟩ = some (.slice ka n kc) := cell_of_row w3 _ 1 _ _ _ gb2
      have x2 : w3.drew.cell? ⟨w.heap.size, 2, none⟩ = some (.slice sa sl sc) := cell_of_row w3 _ 2 _ _ _ gb2
      have hTd : TrailAt w3.drew gT 0 false (hashS key 0) many told := hT
      have hgbz : w.heap.size < w3.drew.heap.size := (Array.getElem?_eq_some_iff.1 gb2).1
      have hgrz : w.heap.size + 1 < w3.drew.heap.size := (Array.getElem?_eq_some_iff.1 gr2).1
      have beld := bel.drew
      obtain ⟨z, hz3⟩ : ∃ z, many + 3 = z := ⟨_, rfl⟩
      have hSz := size_any w3.drew gT _ _ _ _ _ hTd hm65
      have hRm := withRoom_any w3.drew cap B ka n kc sa sl sc ks s rs (h.mono beld) (Nat.le_trans hB beld.size) (many + 3) (by omega) (by omega) hn2
      rw [hz3] at hSz hRm
      have HZ := Lib.hid hz3
      clear hz3
      go_wp2_with fail
      go_region_held3 (fun w' => w'.cell? ⟨w.heap.size, 0, none⟩ = some (.int .i64 cap) ∧ w'.cell? ⟨w.heap.size, 1, none⟩ = some (.slice ka n kc) ∧ w'.cell? ⟨w.heap.size, 2, none⟩ = some (.slice sa sl sc))
        (first | with_reducible exact ⟨x0, x1, x2⟩ | with_reducible exact ⟨p0, p1, p2⟩)
        (first | (go_at_call 31; refine hSz.mono ?_; rintro e _ ⟨rfl, rfl⟩) | (go_at_call 30; refine hRm.mono ?_; rintro e w4 ⟨kb, sb, kc', sc', kcur, scur, rfl, hR, hn1, hs1, hrd, b4, hpl⟩; have p0 := (b4.cell (p := ⟨w.heap.size, 0, none⟩) hgbz).trans x0; have p1 := (b4.cell (p := ⟨w.heap.size, 1, none⟩) hgbz).trans x1; have p2 := (b4.cell (p := ⟨w.heap.size, 2, none⟩) hgbz).trans x2))
      rw [← HZ.out] at hs1
      clear x0 x1 x2 cK cC hSz hRm
      have gb4 := (b4.block w.heap.size hgbz).trans gb2
      have gr4 := (b4.block (w.heap.size + 1) hgrz).trans gr2
      have hT4 := hTd.mono b4
      have bel4 := below_then beld b4
      have hbz := beld.size
      have hkbn : kb ≠ w.heap.size ∧ kb ≠ w.heap.size + 1 ∧ kb ≠ gT ∧ sb ≠ w.heap.size ∧ sb ≠ w.heap.size + 1 ∧ sb ≠ gT := by
        have hgTz : gT < w3.drew.heap.size := hTd.lt
        rcases hpl with ⟨e1, e2, _⟩ | ⟨e1, e2⟩
        · rcases h.mem with ⟨_, e, _⟩ | ⟨kb0, sb0, kc0, sc0, e6, e7, r0⟩
          · rw [e1] at e
            cases e
          · rw [e1] at e6
            rw [e2] at e7
            cases e6
            cases e7
            have h1 := (Array.getElem?_eq_some_iff.1 r0.rowk).1
            have h2 := (Array.getElem?_eq_some_iff.1 r0.rows).1
            refine ⟨?_, ?_, ?_, ?_, ?_, ?_⟩ <;> omega
        · refine ⟨?_, ?_, ?_, ?_, ?_, ?_⟩ <;> omega
      obtain ⟨d1, d2, d3, d4, d5, d6⟩ := hkbn
      clear gb2 gr2 hTd hT p0 p1 p2
      go_wp2_with fail
      refine (copied_any w4 ya yl yc key (hk.mono bel4) hyl).mono ?_
      rintro e w5 ⟨⟨x, c', rfl, hkb⟩, b5⟩
      have hR5 := hR.mono b5
      have gb5 := (b5.block w.heap.size (Array.getElem?_eq_some_iff.1 gb4).1).trans gb4
      have gr5 := (b5.block (w.heap.size + 1) (Array.getElem?_eq_some_iff.1 gr4).1).trans gr4
      have hT5 := hT4.mono b5
      have bAA : Below w5.heap.size w5 (w5.alloc (.cells #[.slice (some x) yl c'] 29)) := (Below.refl _ _).alloc (Nat.le_refl _) _
      have hrk := (bAA.block kb (Array.getElem?_eq_some_iff.1 hR5.rowk).1).trans hR5.rowk
      have hlenk := hR.lenk
      go_wp2_with (at_builtin; refine append_room rfl (.tmp 36) (.tmp 39) 25 29 rfl Try.underlying25 (Value.slice none 0 0) 24 Try.info_row kb n kc' kcur hrk rfl ⟨w5.heap.size, 0, none⟩ 1 1 [.slice (some x) yl c'] rfl rfl (cell_one_new _ _ _) (fun u hu => by rw [List.mem_singleton.1 hu]; rfl) (by omega) (by omega) ?_; intro w6 g6 z6 o6 b6)
      have hT6 : TrailAt w6 gT 0 false (hashS key 0) many told := (o6 gT (Ne.symm d3)).trans (hT5.mono bAA)
      have hrs6 := (o6 sb (Ne.symm hR.ne)).trans ((bAA.block sb (Array.getElem?_eq_some_iff.1 hR5.rows).1).trans hR5.rows)
      have gb6 := (o6 w.heap.size (Ne.symm d1)).trans ((bAA.block w.heap.size (Array.getElem?_eq_some_iff.1 gb5).1).trans gb5)
      have gr6 := (o6 (w.heap.size + 1) (Ne.symm d2)).trans ((bAA.block (w.heap.size + 1) (Array.getElem?_eq_some_iff.1 gr5).1).trans gr5)
      refine (record_any w6 gT sb sl sc' (hashS key 0) many n 0 false told hT6 hl65 hm65 (hashS_lt key 0) (Ne.symm d6) scur hrs6 hR.lens hR.typs hs1 hR.bigs (by omega)).mono ?_
      rintro e w7 ⟨rfl, ⟨cur, hcur, hcl, hct, hcty⟩, hz7, ho7, b7⟩
      have gb7 := (ho7 w.heap.size (Array.getElem?_eq_some_iff.1 gb6).1 (Ne.symm d4)).trans gb6
      have gr7 := (ho7 (w.heap.size + 1) (Array.getElem?_eq_some_iff.1 gr6).1 (Ne.symm d5)).trans gr6
      have gk7 := (ho7 kb (Array.getElem?_eq_some_iff.1 g6).1 hR.ne).trans g6
      have cC7 : w7.cell? ⟨w.heap.size, 0, none⟩ = some (.int .i64 cap) := cell_of_row _ _ 0 _ _ _ gb7
      clear hT4 hT5 hT6
      go_wp2_with (first | (refine wpList_build_row rfl 28 _ rfl _ (by rw [Array.toList_map]; exact tab_built _ _ _ _ _ _ _) ?_) | (refine store_rec rfl 28 (.tmp 4) (.tmp 48) rfl (w.heap.size + 1) #[.int .i64 cap, .slice (some ⟨kb, 0, none⟩) (n + 1) kc', .slice (some ⟨sb, 0, none⟩) (sl + many + 3) sc'] rfl rfl 28 _ gr7 (by kernel_rfl) rfl (by simp [Value.oneCell']) ?_; intro w8 g8 z8 o8 b8))
      have q0 := cell_of_row w8 (w.heap.size + 1) 0 _ _ _ g8
      have q1 := cell_of_row w8 (w.heap.size + 1) 1 _ _ _ g8
      have q2 := cell_of_row w8 (w.heap.size + 1) 2 _ _ _ g8
      simp at q0 q1 q2
      have hz6 : w5.heap.size ≤ w6.heap.size := by rw [z6, World.size_alloc]; omega
      have hG := grown_of (w8 := w8) h hn2 bel4 hR hn1 hs1 hrd HMN.out b5 hkb ((o8 kb d2).trans gk7) ((o8 sb d5).trans hcur) hcl (by rw [hct, ← told_take hl65 (by rw [← HMN.out]; exact htold), ← HMN.out]) hcty (by rw [z8]; omega) (r := w.heap.size + 1)
        (fun b hb e1 e2 e3 => (o8 b e3).trans ((ho7 b (by omega) e2).trans ((o6 b e1).trans (bAA.block b hb)))) gr5 (by omega)
        (fun D hD1 hD2 hD3 => ((((bel4.mono hD1).trans (b5.mono (by have := bel4.size; omega))).trans (bAA.mono (by have := bel4.size; have := b5.size; omega))).trans (b6.mono hD2)).trans ((b7.mono hD3).trans (b8.mono (by omega))))
        (hpl.imp id fun hh => ⟨by omega, by omega⟩)
      exact bodyPost_ret (v := .tuple #[.agg #[.int .i64 cap, .slice (some ⟨kb, 0, none⟩) (n + 1) kc', .slice (some ⟨sb, 0, none⟩) (sl + many + 3) sc'], .int .i64 (n : Nat), .bool true, .int .i64 0]) (by simp [results, Try.results19, go_sem, q0, q1, q2]) rfl (.inr (.inr ⟨hno, by omega, kb, kc', sb, _, sc', rfl, hG⟩))
end Go.Proofs.Ytbbdeefnooaacaa
