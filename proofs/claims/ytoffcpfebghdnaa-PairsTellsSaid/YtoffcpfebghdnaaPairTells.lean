/- PairsTells returns true (by gen05z.py). -/
import Derived.Test.YtoffcpfebghdnaaPairJ
namespace Go.Proofs.Ytoffcpfebghdnaa
open Go.RowKit
set_option linter.unusedVariables false
set_option linter.unusedSimpArgs false
theorem new_evP (most : Int) : ∃ M E : Int, ((0 ≤ M ∧ M ≤ 1048576 ∧ E = 0) ∨ E = 1) ∧ (∀ w : World, Calls Try.prog 5 #[.int .i64 most] w fun e w' => e = .returned (.tuple #[.agg #[.int .i64 M, .slice none 0 0, .slice none 0 0], .int .i64 E]) ∧ Below w.heap.size w w') ∧
    ∀ w : World, Calls Try.prog 6 #[.int .i64 most] w fun e w' => e = .returned (.tuple #[.agg #[.int .i64 M, .slice none 0 0, .slice none 0 0], .int .i64 E]) ∧ Below w.heap.size w w' := by
  by_cases h : 0 ≤ most ∧ most ≤ 1048576
  · refine ⟨most, 0, .inl ⟨h.1, h.2, rfl⟩, fun w => newP_ok w most h, fun w => ?_⟩
    have := refnewP_any w most
    rwa [if_pos h] at this
  · refine ⟨0, 1, .inr rfl, fun w => newP_bad w most h, fun w => ?_⟩
    have := refnewP_any w most
    rwa [if_neg h] at this
theorem docP_nil (w : World) : DocP w (.slice none 0 0) (.slice none 0 0) 0 [] := ⟨World.ownsRow_nil _ _ _ _, World.ownsRow_nil _ _ _ _, (fun p hp => by cases hp), rfl, by omega⟩
theorem findP_both (ps : List (Nat × Nat)) (hnd : (keysP ps).Nodup) (a b : Nat) (ha : a < 4294967296) (hb : b < 4294967296) : ∃ p0 : Nat, (∀ (w : World) (cap : Int) (ka : Option Addr) (n kc : Nat) (sa : Option Addr) (sl sc : Nat) (s : List Int) (rs : List (Nat × Nat)) (_ : TabR w ka n sa sl (keysP ps) s rs),
    Calls Try.prog 10 #[.agg #[.int .i64 cap, .slice ka n kc, .slice sa sl sc], .int .u32 (a : Nat), .int .u32 (b : Nat)] w fun e w' => e = .returned (.tuple #[.int .i64 (p0 : Nat), .bool (decide (pk a b ∈ keysP ps))]) ∧ Below w.heap.size w w') ∧
    ∀ (w : World) (cap : Int) (da db : Option Addr) (n ca cb : Nat) (_ : DocP w (.slice da n ca) (.slice db n cb) n ps),
    Calls Try.prog 11 #[.agg #[.int .i64 cap, .slice da n ca, .slice db n cb], .int .u32 (a : Nat), .int .u32 (b : Nat)] w fun e w' => e = .returned (.tuple #[.int .i64 (p0 : Nat), .bool (decide (pk a b ∈ keysP ps))]) ∧ Below w.heap.size w w' := by
  obtain ⟨p0, ⟨h1, h2⟩, h3⟩ := findP_in (keysP ps) hnd a b ha hb
  by_cases hm : pk a b ∈ keysP ps
  · refine ⟨p0, h3, fun w cap da db n ca cb h => (reffindP_any w cap da db n ca cb ps h a b ha hb).mono ?_⟩
    rintro e w' ⟨⟨q, rfl, k1, k2⟩, hbl⟩
    obtain rfl := h1 q (k1 hm).1 (k1 hm).2
    exact ⟨rfl, hbl⟩
  · refine ⟨0, fun w cap ka n kc sa sl sc s rs h => (findP_any w cap ka n kc sa sl sc (keysP ps) s rs h a b ha hb).mono ?_, fun w cap da db n ca cb h => (reffindP_any w cap da db n ca cb ps h a b ha hb).mono ?_⟩
    all_goals
      rintro e w' ⟨⟨q, rfl, k1, k2⟩, hbl⟩
      rw [k2 hm]
      exact ⟨rfl, hbl⟩
theorem pairP_both (ps : List (Nat × Nat)) (n : Nat) (hln : ps.length = n) (hsm : n ≤ 1048576) (hlt : ∀ p ∈ ps, p.1 < 4294967296 ∧ p.2 < 4294967296) (i : Int) : ∃ (x y E : Int), (∀ (w : World) (cap : Int) (ka : Option Addr) (kc : Nat) (sa : Option Addr) (sl sc : Nat) (s : List Int) (rs : List (Nat × Nat)) (_ : TabR w ka n sa sl (keysP ps) s rs),
    Calls Try.prog 12 #[.agg #[.int .i64 cap, .slice ka n kc, .slice sa sl sc], .int .i64 i] w fun e w' => e = .returned (.tuple #[.int .u32 x, .int .u32 y, .int .i64 E]) ∧ Below w.heap.size w w') ∧
    ∀ (w : World) (cap : Int) (da db : Option Addr) (ca cb : Nat) (_ : DocP w (.slice da n ca) (.slice db n cb) n ps),
    Calls Try.prog 13 #[.agg #[.int .i64 cap, .slice da n ca, .slice db n cb], .int .i64 i] w fun e w' => e = .returned (.tuple #[.int .u32 x, .int .u32 y, .int .i64 E]) ∧ Below w.heap.size w w' := by
  by_cases hi : 0 ≤ i ∧ i < n
  · obtain ⟨j, rfl⟩ := Int.eq_ofNat_of_zero_le hi.1
    have hj : j < n := by omega
    obtain ⟨⟨x, y⟩, hxy⟩ : ∃ p, ps[j]? = some p := ⟨ps[j]'(by omega), List.getElem?_eq_getElem _⟩
    have hl := hlt _ (List.mem_of_getElem? hxy)
    refine ⟨x, y, 0, fun w cap ka kc sa sl sc s rs h => pairP_ok w cap ka n kc sa sl sc (keysP ps) s rs h (fun k hk => ?_) j hj x y hl.1 hl.2 (keysP_get hxy), fun w cap da db ca cb h => refpairP_ok w cap da db n ca cb ps h j hj x y hxy⟩
    obtain ⟨p, _, rfl⟩ := List.mem_map.1 hk
    show (8 : Nat) ≤ 1000000
    omega
  · exact ⟨0, 0, 10, fun w cap ka kc sa sl sc s rs h => pairP_bad w cap ka n kc sa sl sc i (by omega) hsm, fun w cap da db ca cb h => refpairP_bad w cap da db n ca cb i (by omega)⟩
set_option maxRecDepth 100000 in
set_option maxHeartbeats 8000000 in
theorem pairstells_any (w : World) (most i0 : Int) (al : Option Addr) (n cl : Nat) (f : Nat → Nat × Nat) (hA : PrsAt w al n f) (a0 b0 : Nat) (ha0 : a0 < 4294967296) (hb0 : b0 < 4294967296) :
    Calls Try.prog 3 #[.agg #[.int .i64 most, .slice al n cl, .int .u32 (a0 : Nat), .int .u32 (b0 : Nat), .int .i64 i0]] w fun e w' => e = .returned (.bool true) ∧ Below w.heap.size w w' := by
  have nb := hA.small
  have bt0 : Below w.heap.size w (w.alloc (.cells #[.int .i64 most, .slice al n cl, .int .u32 (a0 : Nat), .int .u32 (b0 : Nat), .int .i64 i0] 25)) := (Below.refl _ _).alloc (Nat.le_refl _) _
  go_enter Try.func3, Try.ntmps3
  go_wp2_with fail
  refine (shown_any _).mono ?_
  rintro e w0 ⟨rfl, bt⟩
  replace bt := below_then bt0 bt
  clear bt0
  by_cases hn60 : 60 < n
  · have f1 : decide ((60 : Int) < (n : Int)) = true := by simp; omega
    go_wp2_with fail
    go_ret
    exact ⟨rfl, bt⟩
  have f1 : decide ((60 : Int) < (n : Int)) = false := by simp; omega
  obtain ⟨M, E, hME, hn1, hn2⟩ := new_evP most
  have HN1 := Lib.hid hn1
  have HN2 := Lib.hid hn2
  have HME := Lib.hid hME
  clear hn1 hn2 hME
  go_wp2_with fail
  refine (HN1.out _).mono ?_
  rintro e w1 ⟨rfl, b1⟩
  replace bt := below_then bt b1
  have hB := bt.size
  have A := (Below.refl w1.heap.size w1).alloc (Nat.le_refl _) (.cells #[.int .i64 M, .slice none 0 0, .slice none 0 0] 32)
  have pt : (w1.alloc (.cells #[.int .i64 M, .slice none 0 0, .slice none 0 0] 32)).heap[w1.heap.size]? = some (.cells #[.int .i64 M, .slice none 0 0, .slice none 0 0] 32 (0, 0)) := heap_alloc_new _ _
  replace bt := below_then bt A
  go_upto_region 10 with fail
  obtain ⟨v1, hv⟩ : ∃ v, w1.alloc (.cells #[.int .i64 M, .slice none 0 0, .slice none 0 0] 32) = v := ⟨_, rfl⟩
  obtain ⟨gt, hg⟩ : ∃ g, w1.heap.size = g := ⟨_, rfl⟩
  rw [hv] at pt bt ⊢
  rw [hg] at pt hB ⊢
  clear hv hg A b1
  go_wp2_with fail
  refine (HN2.out _).mono ?_
  rintro e w1 ⟨rfl, b1⟩
  replace pt := (b1.block gt (Array.getElem?_eq_some_iff.1 pt).1).trans pt
  replace bt := below_then bt b1
  have hBd := bt.size
  have A := (Below.refl w1.heap.size w1).alloc (Nat.le_refl _) (.cells #[.int .i64 M, .slice none 0 0, .slice none 0 0] 38)
  have pd : (w1.alloc (.cells #[.int .i64 M, .slice none 0 0, .slice none 0 0] 38)).heap[w1.heap.size]? = some (.cells #[.int .i64 M, .slice none 0 0, .slice none 0 0] 38 (0, 0)) := heap_alloc_new _ _
  have hne : gt < w1.heap.size := (Array.getElem?_eq_some_iff.1 pt).1
  replace pt := (A.block gt (Array.getElem?_eq_some_iff.1 pt).1).trans pt
  replace bt := below_then bt A
  go_upto_region 11 with fail
  obtain ⟨v2, hv⟩ : ∃ v, w1.alloc (.cells #[.int .i64 M, .slice none 0 0, .slice none 0 0] 38) = v := ⟨_, rfl⟩
  obtain ⟨gd, hg⟩ : ∃ g, w1.heap.size = g := ⟨_, rfl⟩
  rw [hv] at pt pd bt ⊢
  rw [hg] at pd hBd hne ⊢
  clear hv hg A b1 HN1 HN2
  rcases HME.out with ⟨hM0, hM1, rfl⟩ | rfl
  case inr =>
    have c0 : v2.cell? ⟨gt, 0, none⟩ = some (.int .i64 M) := cell_of_row _ _ 0 _ _ _ pt
    have c1 : v2.cell? ⟨gt, 1, none⟩ = some (.slice none 0 0) := cell_of_row _ _ 1 _ _ _ pt
    have c2 : v2.cell? ⟨gt, 2, none⟩ = some (.slice none 0 0) := cell_of_row _ _ 2 _ _ _ pt
    go_wp2_with fail
    refine (manyP_any _ M none 0 0 none 0 0 (by omega)).mono ?_
    rintro e w3 ⟨rfl, b3⟩
    replace bt := below_then bt b3
    go_wp2_with fail
    go_ret
    exact ⟨rfl, bt⟩
  obtain ⟨N, rfl⟩ := Int.eq_ofNat_of_zero_le hM0
  clear HME hM0
  have Mt := TabM.empty v2 w.heap.size
  have Dp := docP_nil v2
  go_wp2_with fail
  go_loopw [13] (fun i w' => ∃ (j m : Nat) (ka : Option Addr) (kc : Nat) (sa : Option Addr) (sl sc : Nat) (s : List Int) (rs : List (Nat × Nat)) (da db : Option Addr) (ca cb : Nat) (ps : List (Nat × Nat)), j ≤ n ∧ i = .int .i64 (j : Nat) ∧ (keysP ps).Nodup ∧ w'.heap[gt]? = some (.cells #[.int .i64 (N : Nat), .slice ka m kc, .slice sa sl sc] 32 (0, 0)) ∧ w'.heap[gd]? = some (.cells #[.int .i64 (N : Nat), .slice da m ca, .slice db m cb] 38 (0, 0)) ∧ TabM w' w.heap.size ka m kc sa sl sc (keysP ps) s rs ∧ DocP w' (.slice da m ca) (.slice db m cb) m ps ∧ Below w.heap.size w w') (fun i _ => n - (intOf i).toNat)
  case atStart => exact ⟨0, 0, none, 0, none, 0, 0, [], [], none, none, 0, 0, [], Nat.zero_le _, rfl, List.nodup_nil, pt, pd, Mt, Dp, bt⟩
  case round =>
    clear pt pd Mt Dp bt
    obtain ⟨j, m, ka, kc, sa, sl, sc, s, rs, da, db, ca, cb, ps, hj, rfl, hnd, pt, pd, Mt, Dp, bt⟩ := hrel
    by_cases hjn : j < n
    · have f3 : decide (j < n) = true := by simpa using hjn
      obtain ⟨bl, ol, rfl, hbl, hact⟩ := hA.at_.resolve_left (by omega)
      have hlt := hA.lt j
      have hx := hact j hjn
      obtain ⟨⟨x, y⟩, hu⟩ : ∃ u, f j = u := ⟨_, rfl⟩
      rw [hu] at hx hlt
      simp only [] at hx hlt
      obtain ⟨hlx, hly⟩ := hlt
      have hblr : bl < wr.heap.size := Nat.lt_of_lt_of_le hbl bt.size
      have y0 : wr.cell? ⟨bl, ol + j * 2, none⟩ = some (.int .u32 (x : Nat)) := (bt.cell (p := ⟨bl, ol + j * 2, none⟩) hbl).trans hx.1
      have y1 : wr.cell? ⟨bl, ol + j * 2 + 1, none⟩ = some (.int .u32 (y : Nat)) := (bt.cell (p := ⟨bl, ol + j * 2 + 1, none⟩) hbl).trans hx.2
      have HX := Lib.hid hx
      have HND := Lib.hid hnd
      have hm20 := Mt.rd.small
      clear hact hu hx
      go_upto_region 18 with fail
      go_cut [14, 15, 16, 17] from 68 to 130 (fun v14 v15 v16 v17 w' => ∃ (gx : Nat) (ka' : Option Addr) (n' kc' : Nat) (sa' : Option Addr) (sl' sc' : Nat) (KS' : List (List Nat)) (s' : List Int) (rs' : List (Nat × Nat)) (p : Nat) (F : Bool) (E : Int), v14 = .pointer (some ⟨gx, 0, none⟩) ∧ v15 = .int .i64 (p : Nat) ∧ v16 = .bool F ∧ v17 = .int .i64 E ∧ wr.heap.size ≤ gx ∧ w'.heap[gx]? = some (.cells #[.int .i64 (N : Nat), .slice ka' n' kc', .slice sa' sl' sc'] 32 (0, 0)) ∧ TabM w' w.heap.size ka' n' kc' sa' sl' sc' KS' s' rs' ∧ TabM w' w.heap.size ka m kc sa sl sc (keysP ps) s rs ∧ Below w.heap.size w w' ∧ KeptT wr w' w.heap.size ka m sa ka' n' sa' ∧ OutP (N : Nat) (keysP ps) (pk x y) p F E KS' ∧ StayT wr w' F (ka' = ka ∧ n' = m ∧ kc' = kc ∧ sa' = sa ∧ sl' = sl ∧ sc' = sc))
      case first =>
        have bD : Below wr.heap.size wr wr.drew := (Below.refl _ _).drew
        have bAA : Below wr.heap.size wr (wr.alloc (.cells #[.int .i64 0, .slice none 0 0, .slice none 0 0] 32)).drew := ((Below.refl _ _).alloc (Nat.le_refl _) _).drew
        have ptD : wr.drew.heap[gt]? = some (.cells #[.int .i64 (N : Nat), .slice ka m kc, .slice sa sl sc] 32 (0, 0)) := pt
        have gtl : gt < wr.heap.size := (Array.getElem?_eq_some_iff.1 pt).1
        have ptA := (bAA.block gt gtl).trans pt
        have MD := Mt.mono bD
        have MA := Mt.mono bAA
        have hBD := Nat.le_trans bt.size bD.size
        have hBA := Nat.le_trans bt.size bAA.size
        have hnt : gt ≠ wr.heap.size := Nat.ne_of_lt gtl
        have hnb : bl ≠ wr.heap.size := Nat.ne_of_lt hblr
        have gD0 : wr.drew.cell? ⟨gt, 0, none⟩ = some (.int .i64 (N : Nat)) := cell_of_row _ _ 0 _ _ _ ptD
        have gA0 : (wr.alloc (.cells #[.int .i64 0, .slice none 0 0, .slice none 0 0] 32)).drew.cell? ⟨gt, 0, none⟩ = some (.int .i64 (N : Nat)) := cell_of_row _ _ 0 _ _ _ ptA
        have gD1 : wr.drew.cell? ⟨gt, 1, none⟩ = some (.slice ka m kc) := cell_of_row _ _ 1 _ _ _ ptD
        have gA1 : (wr.alloc (.cells #[.int .i64 0, .slice none 0 0, .slice none 0 0] 32)).drew.cell? ⟨gt, 1, none⟩ = some (.slice ka m kc) := cell_of_row _ _ 1 _ _ _ ptA
        have gD2 : wr.drew.cell? ⟨gt, 2, none⟩ = some (.slice sa sl sc) := cell_of_row _ _ 2 _ _ _ ptD
        have gA2 : (wr.alloc (.cells #[.int .i64 0, .slice none 0 0, .slice none 0 0] 32)).drew.cell? ⟨gt, 2, none⟩ = some (.slice sa sl sc) := cell_of_row _ _ 2 _ _ _ ptA
        have yD0 : wr.drew.cell? ⟨bl, ol + j * 2, none⟩ = some (.int .u32 (x : Nat)) := y0
        have yA0 : (wr.alloc (.cells #[.int .i64 0, .slice none 0 0, .slice none 0 0] 32)).drew.cell? ⟨bl, ol + j * 2, none⟩ = some (.int .u32 (x : Nat)) := (bAA.cell (p := ⟨bl, ol + j * 2, none⟩) hblr).trans y0
        have yD1 : wr.drew.cell? ⟨bl, ol + j * 2 + 1, none⟩ = some (.int .u32 (y : Nat)) := y1
        have yA1 : (wr.alloc (.cells #[.int .i64 0, .slice none 0 0, .slice none 0 0] 32)).drew.cell? ⟨bl, ol + j * 2 + 1, none⟩ = some (.int .u32 (y : Nat)) := (bAA.cell (p := ⟨bl, ol + j * 2 + 1, none⟩) hblr).trans y1
        have zrowA : (wr.alloc (.cells #[.int .i64 0, .slice none 0 0, .slice none 0 0] 32)).drew.heap[wr.heap.size]? = some (.cells #[.int .i64 0, .slice none 0 0, .slice none 0 0] 32 (0, 0)) := heap_alloc_new wr _
        have hI1 := insertP_all wr.drew (N : Nat) (by omega) (by omega) w.heap.size ka m kc sa sl sc (keysP ps) s rs MD hBD x y hlx hly hnd
        have hI2 := insertP_all (wr.alloc (.cells #[.int .i64 0, .slice none 0 0, .slice none 0 0] 32)).drew (N : Nat) (by omega) (by omega) w.heap.size ka m kc sa sl sc (keysP ps) s rs MA hBA x y hlx hly hnd
        clear MD MA pt Mt
        go_region_held3 (fun w' => w'.cell? ⟨gt, 0, none⟩ = some (.int .i64 (N : Nat)) ∧ w'.cell? ⟨gt, 1, none⟩ = some (.slice ka m kc) ∧ w'.cell? ⟨gt, 2, none⟩ = some (.slice sa sl sc) ∧ w'.cell? ⟨bl, ol + j * 2, none⟩ = some (.int .u32 (x : Nat)) ∧ w'.cell? ⟨bl, ol + j * 2 + 1, none⟩ = some (.int .u32 (y : Nat)))
          (first | (refine ⟨?_, ?_, ?_, ?_, ?_⟩ <;> with_reducible assumption) | (refine ⟨?_, ?_, ?_, ?_, ?_⟩; with_reducible exact cellAlloc _ _ r0; with_reducible exact cellAlloc _ _ r1; with_reducible exact cellAlloc _ _ r2; with_reducible exact cellAlloc _ _ ry0; with_reducible exact cellAlloc _ _ ry1) | (refine ⟨?_, ?_, ?_, ?_, ?_⟩; with_reducible exact three_cellU _ _ _ _ _ _ _ hnt r0; with_reducible exact three_cellU _ _ _ _ _ _ _ hnt r1; with_reducible exact three_cellU _ _ _ _ _ _ _ hnt r2; with_reducible exact three_cellU _ _ _ _ _ _ _ hnb ry0; with_reducible exact three_cellU _ _ _ _ _ _ _ hnb ry1))
          (first | (go_at_call 8; (with_reducible refine hI1.mono ?_); rintro e ws ⟨ka', n', kc', sa', sl', sc', KS', s', rs', p, F, E, rfl, Hx, Ho, bx, HT, hout, hst⟩; have HO := Lib.hid hout; clear hout; have rt := HT.recd gt _ _ _ ptD (by decide) (by decide); have r0 : ws.cell? ⟨gt, 0, none⟩ = some (.int .i64 (N : Nat)) := cell_of_row _ _ 0 _ _ _ rt; have r1 : ws.cell? ⟨gt, 1, none⟩ = some (.slice ka m kc) := cell_of_row _ _ 1 _ _ _ rt; have r2 : ws.cell? ⟨gt, 2, none⟩ = some (.slice sa sl sc) := cell_of_row _ _ 2 _ _ _ rt; have ry0 : ws.cell? ⟨bl, ol + j * 2, none⟩ = some (.int .u32 (x : Nat)) := (bx.cell (p := ⟨bl, ol + j * 2, none⟩) (by first | assumption | omega)).trans yD0; have ry1 : ws.cell? ⟨bl, ol + j * 2 + 1, none⟩ = some (.int .u32 (y : Nat)) := (bx.cell (p := ⟨bl, ol + j * 2 + 1, none⟩) (by first | assumption | omega)).trans yD1; have HTW := HT.pre bD; have HST := hst.pre bD; clear hst; have bw : Below w.heap.size w ws := (bt.trans (bD.mono bt.size)).trans bx) | (go_at_call 8; (with_reducible refine hI2.mono ?_); rintro e ws ⟨ka', n', kc', sa', sl', sc', KS', s', rs', p, F, E, rfl, Hx, Ho, bx, HT, hout, hst⟩; have HO := Lib.hid hout; clear hout; have rt := HT.recd gt _ _ _ ptA (by decide) (by decide); have r0 : ws.cell? ⟨gt, 0, none⟩ = some (.int .i64 (N : Nat)) := cell_of_row _ _ 0 _ _ _ rt; have r1 : ws.cell? ⟨gt, 1, none⟩ = some (.slice ka m kc) := cell_of_row _ _ 1 _ _ _ rt; have r2 : ws.cell? ⟨gt, 2, none⟩ = some (.slice sa sl sc) := cell_of_row _ _ 2 _ _ _ rt; have ry0 : ws.cell? ⟨bl, ol + j * 2, none⟩ = some (.int .u32 (x : Nat)) := (bx.cell (p := ⟨bl, ol + j * 2, none⟩) (by first | assumption | omega)).trans yA0; have ry1 : ws.cell? ⟨bl, ol + j * 2 + 1, none⟩ = some (.int .u32 (y : Nat)) := (bx.cell (p := ⟨bl, ol + j * 2 + 1, none⟩) (by first | assumption | omega)).trans yA1; have HTW := HT.pre bAA; have HST := hst.pre bAA; clear hst; have bw : Below w.heap.size w ws := (bt.trans (bAA.mono bt.size)).trans bx; have gz := HT.recd wr.heap.size _ _ _ zrowA (by decide) (by decide); have v0 : ws.cell? ⟨wr.heap.size, 0, none⟩ = some (.int .i64 0) := cell_of_row _ _ 0 _ _ _ gz; have g0 := frozen_of_row ws wr.heap.size 0 _ _ gz; have v1 : ws.cell? ⟨wr.heap.size, 1, none⟩ = some (.slice none 0 0) := cell_of_row _ _ 1 _ _ _ gz; have g1 := frozen_of_row ws wr.heap.size 1 _ _ gz; have v2 : ws.cell? ⟨wr.heap.size, 2, none⟩ = some (.slice none 0 0) := cell_of_row _ _ 2 _ _ _ gz; have g2 := frozen_of_row ws wr.heap.size 2 _ _ gz))
        all_goals
          go_wp2_with fail
          go_meet
          have al := (Below.refl ws.heap.size ws).alloc (Nat.le_refl _) (.cells #[.int .i64 (N : Nat), .slice ka' n' kc', .slice sa' sl' sc'] 32)
          have hgw := bt.size
          first
          | exact ⟨ws.heap.size, ka', n', kc', sa', sl', sc', KS', s', rs', p, F, E, rfl, rfl, rfl, rfl, HTW.size, heap_alloc_new _ _, Hx.mono al, Ho.mono al, bw.trans (al.mono (Nat.le_trans hgw HTW.size)), HTW.next_below al, HO.out, HST.next_below al⟩
          | exact ⟨wr.heap.size, ka', n', kc', sa', sl', sc', KS', s', rs', p, F, E, rfl, rfl, rfl, rfl, Nat.le_refl _, three_rowU _ _ _ _ _ _ _ _ _ gz, Hx.offrec gz (noU8_rec gz fun v hv m => by simp at hv; rcases hv with rfl | rfl | rfl <;> simp) (by decide) (by decide) (three_size _ _ _ _ _) (fun b hb => three_other _ _ _ _ _ _ hb), Ho.offrec gz (noU8_rec gz fun v hv m => by simp at hv; rcases hv with rfl | rfl | rfl <;> simp) (by decide) (by decide) (three_size _ _ _ _ _) (fun b hb => three_other _ _ _ _ _ _ hb), three_below bw hgw _ _ _, HTW.store (Nat.le_refl _) gz (noU8_rec gz fun v hv m => by simp at hv; rcases hv with rfl | rfl | rfl <;> simp) (by decide) (by decide) (three_size _ _ _ _ _) (fun b hb => three_other _ _ _ _ _ _ hb), HO.out, HST.next fun h => three_below h (Nat.le_refl _) _ _ _⟩
      case rest =>
        obtain ⟨gx, kz, mz, kcz, sz, slz, scz, KZ, sZ, rsZ, p, F, E, rfl, rfl, rfl, rfl, hgx, px, Mx, Mo, bx, HT, hout, hst⟩ := hcut
        have gtl0 : gt < wr.heap.size := (Array.getElem?_eq_some_iff.1 pt).1
        have gdl0 : gd < wr.heap.size := (Array.getElem?_eq_some_iff.1 pd).1
        have pt2 := HT.recd gt _ _ _ pt (by decide) (by decide)
        have pd2 := HT.recd gd _ _ _ pd (by decide) (by decide)
        have Dp2 := Dp.past (fun g vs hg => HT.recd g vs _ _ hg (by decide) (by decide))
        have y02 : wc.cell? ⟨bl, ol + j * 2, none⟩ = some (.int .u32 (x : Nat)) := (bx.cell (p := ⟨bl, ol + j * 2, none⟩) hbl).trans HX.out.1
        have y12 : wc.cell? ⟨bl, ol + j * 2 + 1, none⟩ = some (.int .u32 (y : Nat)) := (bx.cell (p := ⟨bl, ol + j * 2 + 1, none⟩) hbl).trans HX.out.2
        have hxt : gx ≠ gt := by omega
        have hxd : gx ≠ gd := by omega
        have HO1 := Lib.hid hout
        have bt2 := bx
        clear pt pd Mt Mo Dp y0 y1 hst HT hout bt bx gtl0 gdl0 hblr
        have gdl : gd < wc.heap.size := (Array.getElem?_eq_some_iff.1 pd2).1
        have hblc : bl < wc.heap.size := Nat.lt_of_lt_of_le hbl bt2.size
        go_upto_region 19 with fail
        go_cut [18, 19, 20, 21] from 68 to 130 (fun v18 v19 v20 v21 w' => ∃ (gy : Nat) (dy ey : Option Addr) (ny cy fy : Nat) (qs : List (Nat × Nat)) (q : Nat) (G : Bool) (D : Int), v18 = .pointer (some ⟨gy, 0, none⟩) ∧ v19 = .int .i64 (q : Nat) ∧ v20 = .bool G ∧ v21 = .int .i64 D ∧ wc.heap.size ≤ gy ∧ w'.heap[gy]? = some (.cells #[.int .i64 (N : Nat), .slice dy ny cy, .slice ey ny fy] 38 (0, 0)) ∧ DocP w' (.slice dy ny cy) (.slice ey ny fy) ny qs ∧ Below wc.heap.size wc w' ∧ OutP (N : Nat) (keysP ps) (pk x y) q G D (keysP qs))
        case first =>
          have bD : Below wc.heap.size wc wc.drew := (Below.refl _ _).drew
          have bAA : Below wc.heap.size wc (wc.alloc (.cells #[.int .i64 0, .slice none 0 0, .slice none 0 0] 38)).drew := ((Below.refl _ _).alloc (Nat.le_refl _) _).drew
          have hdw : gd ≠ wc.heap.size := Nat.ne_of_lt gdl
          have hbw : bl ≠ wc.heap.size := Nat.ne_of_lt hblc
          have q0 : wc.drew.cell? ⟨gd, 0, none⟩ = some (.int .i64 (N : Nat)) := cell_of_row _ _ 0 _ _ _ pd2
          have a0 : (wc.alloc (.cells #[.int .i64 0, .slice none 0 0, .slice none 0 0] 38)).drew.cell? ⟨gd, 0, none⟩ = some (.int .i64 (N : Nat)) := (bAA.cell (p := ⟨gd, 0, none⟩) gdl).trans q0
          have q1 : wc.drew.cell? ⟨gd, 1, none⟩ = some (.slice da m ca) := cell_of_row _ _ 1 _ _ _ pd2
          have a1 : (wc.alloc (.cells #[.int .i64 0, .slice none 0 0, .slice none 0 0] 38)).drew.cell? ⟨gd, 1, none⟩ = some (.slice da m ca) := (bAA.cell (p := ⟨gd, 1, none⟩) gdl).trans q1
          have q2 : wc.drew.cell? ⟨gd, 2, none⟩ = some (.slice db m cb) := cell_of_row _ _ 2 _ _ _ pd2
          have a2 : (wc.alloc (.cells #[.int .i64 0, .slice none 0 0, .slice none 0 0] 38)).drew.cell? ⟨gd, 2, none⟩ = some (.slice db m cb) := (bAA.cell (p := ⟨gd, 2, none⟩) gdl).trans q2
          have yD0 : wc.drew.cell? ⟨bl, ol + j * 2, none⟩ = some (.int .u32 (x : Nat)) := y02
          have yA0 : (wc.alloc (.cells #[.int .i64 0, .slice none 0 0, .slice none 0 0] 38)).drew.cell? ⟨bl, ol + j * 2, none⟩ = some (.int .u32 (x : Nat)) := (bAA.cell (p := ⟨bl, ol + j * 2, none⟩) hblc).trans y02
          have yD1 : wc.drew.cell? ⟨bl, ol + j * 2 + 1, none⟩ = some (.int .u32 (y : Nat)) := y12
          have yA1 : (wc.alloc (.cells #[.int .i64 0, .slice none 0 0, .slice none 0 0] 38)).drew.cell? ⟨bl, ol + j * 2 + 1, none⟩ = some (.int .u32 (y : Nat)) := (bAA.cell (p := ⟨bl, ol + j * 2 + 1, none⟩) hblc).trans y12
          have zrowA : (wc.alloc (.cells #[.int .i64 0, .slice none 0 0, .slice none 0 0] 38)).drew.heap[wc.heap.size]? = some (.cells #[.int .i64 0, .slice none 0 0, .slice none 0 0] 38 (0, 0)) := heap_alloc_new wc _
          have zlt : wc.heap.size < (wc.alloc (.cells #[.int .i64 0, .slice none 0 0, .slice none 0 0] 38)).drew.heap.size := (Array.getElem?_eq_some_iff.1 zrowA).1
          have hI : ∀ z, Below wc.heap.size wc z → Calls Try.prog 9 #[.agg #[.int .i64 (N : Nat), .slice da m ca, .slice db m cb], .int .u32 (x : Nat), .int .u32 (y : Nat)] z fun e w' => InsD z (N : Nat) ps x y e w' := fun z hz => refinsertP_ev z (N : Nat) (by omega) da db m ca cb ps (Dp2.mono hz) x y hlx hly
          have hI1 := hI _ bD
          have hI2 := hI _ bAA
          clear hI
          go_region_held3 (fun w' => w'.cell? ⟨gd, 0, none⟩ = some (.int .i64 (N : Nat)) ∧ w'.cell? ⟨gd, 1, none⟩ = some (.slice da m ca) ∧ w'.cell? ⟨gd, 2, none⟩ = some (.slice db m cb) ∧ w'.cell? ⟨bl, ol + j * 2, none⟩ = some (.int .u32 (x : Nat)) ∧ w'.cell? ⟨bl, ol + j * 2 + 1, none⟩ = some (.int .u32 (y : Nat)))
            (first | (refine ⟨?_, ?_, ?_, ?_, ?_⟩ <;> with_reducible assumption) | (refine ⟨?_, ?_, ?_, ?_, ?_⟩; with_reducible exact cellAlloc _ _ r0; with_reducible exact cellAlloc _ _ r1; with_reducible exact cellAlloc _ _ r2; with_reducible exact cellAlloc _ _ ry0; with_reducible exact cellAlloc _ _ ry1) | (refine ⟨?_, ?_, ?_, ?_, ?_⟩; with_reducible exact three_cellU _ _ _ _ _ _ _ hdw r0; with_reducible exact three_cellU _ _ _ _ _ _ _ hdw r1; with_reducible exact three_cellU _ _ _ _ _ _ _ hdw r2; with_reducible exact three_cellU _ _ _ _ _ _ _ hbw ry0; with_reducible exact three_cellU _ _ _ _ _ _ _ hbw ry1))
            (first | (go_at_call 9; ((with_reducible refine hI1.mono ?_); rintro e ws ⟨va', vb', ny, qs, q, G, D, rfl, Hx, bx, hout⟩; have HO := Lib.hid hout; clear hout; obtain ⟨dy, cy, rfl⟩ := own_shape0 Hx.ra; obtain ⟨ey, fy, rfl⟩ := own_shape0 Hx.rb; have bv := below_then bD bx; have r0 : ws.cell? ⟨gd, 0, none⟩ = some (.int .i64 (N : Nat)) := (bv.cell (p := ⟨gd, 0, none⟩) gdl).trans q0; have r1 : ws.cell? ⟨gd, 1, none⟩ = some (.slice da m ca) := (bv.cell (p := ⟨gd, 1, none⟩) gdl).trans q1; have r2 : ws.cell? ⟨gd, 2, none⟩ = some (.slice db m cb) := (bv.cell (p := ⟨gd, 2, none⟩) gdl).trans q2; have ry0 : ws.cell? ⟨bl, ol + j * 2, none⟩ = some (.int .u32 (x : Nat)) := (bv.cell (p := ⟨bl, ol + j * 2, none⟩) hblc).trans y02; have ry1 : ws.cell? ⟨bl, ol + j * 2 + 1, none⟩ = some (.int .u32 (y : Nat)) := (bv.cell (p := ⟨bl, ol + j * 2 + 1, none⟩) hblc).trans y12)) | (go_at_call 9; ((with_reducible refine hI2.mono ?_); rintro e ws ⟨va', vb', ny, qs, q, G, D, rfl, Hx, bx, hout⟩; have HO := Lib.hid hout; clear hout; obtain ⟨dy, cy, rfl⟩ := own_shape0 Hx.ra; obtain ⟨ey, fy, rfl⟩ := own_shape0 Hx.rb; have bv := below_then bAA bx; have r0 : ws.cell? ⟨gd, 0, none⟩ = some (.int .i64 (N : Nat)) := (bv.cell (p := ⟨gd, 0, none⟩) gdl).trans q0; have r1 : ws.cell? ⟨gd, 1, none⟩ = some (.slice da m ca) := (bv.cell (p := ⟨gd, 1, none⟩) gdl).trans q1; have r2 : ws.cell? ⟨gd, 2, none⟩ = some (.slice db m cb) := (bv.cell (p := ⟨gd, 2, none⟩) gdl).trans q2; have ry0 : ws.cell? ⟨bl, ol + j * 2, none⟩ = some (.int .u32 (x : Nat)) := (bv.cell (p := ⟨bl, ol + j * 2, none⟩) hblc).trans y02; have ry1 : ws.cell? ⟨bl, ol + j * 2 + 1, none⟩ = some (.int .u32 (y : Nat)) := (bv.cell (p := ⟨bl, ol + j * 2 + 1, none⟩) hblc).trans y12; have gz := (bx.block wc.heap.size zlt).trans zrowA; have v0 : ws.cell? ⟨wc.heap.size, 0, none⟩ = some (.int .i64 0) := cell_of_row _ _ 0 _ _ _ gz; have f0 := frozen_of_row ws wc.heap.size 0 _ _ gz; have v1 : ws.cell? ⟨wc.heap.size, 1, none⟩ = some (.slice none 0 0) := cell_of_row _ _ 1 _ _ _ gz; have f1 := frozen_of_row ws wc.heap.size 1 _ _ gz; have v2 : ws.cell? ⟨wc.heap.size, 2, none⟩ = some (.slice none 0 0) := cell_of_row _ _ 2 _ _ _ gz; have f2 := frozen_of_row ws wc.heap.size 2 _ _ gz)))
          all_goals
            go_wp2_with fail
            go_meet
            have al := (Below.refl ws.heap.size ws).alloc (Nat.le_refl _) (.cells #[.int .i64 (N : Nat), .slice dy ny cy, .slice ey ny fy] 38)
            first
            | exact ⟨ws.heap.size, dy, ey, ny, cy, fy, qs, q, G, D, rfl, rfl, rfl, rfl, bv.size, heap_alloc_new _ _, Hx.mono al, below_then bv al, HO.out⟩
            | exact ⟨wc.heap.size, dy, ey, ny, cy, fy, qs, q, G, D, rfl, rfl, rfl, rfl, Nat.le_refl _, three_rowU _ _ _ _ _ _ _ _ _ gz, Hx.past (fun g vs hg => (three_other _ _ _ _ _ _ (by rintro rfl; rw [gz] at hg; simp at hg)).trans hg), three_below bv (Nat.le_refl _) _ _ _, HO.out⟩
        case rest =>
          obtain ⟨gy, dy, ey, ny, cy, fy, qs, q, G, D, rfl, rfl, rfl, rfl, hgy, py, Dy, by_, hout⟩ := hcut
          obtain ⟨rfl, rfl, rfl, rfl⟩ := HO1.out.same HND.out hout
          have hnd2 := hout.nodup HND.out
          have HND2 := Lib.hid hnd2
          have gyt : gy ≠ gt := by omega
          have gyd : gy ≠ gd := by omega
          replace px := (by_.block gx (Array.getElem?_eq_some_iff.1 px).1).trans px
          have pt3 := (by_.block gt (Array.getElem?_eq_some_iff.1 pt2).1).trans pt2
          have pd3 := (by_.block gd (Array.getElem?_eq_some_iff.1 pd2).1).trans pd2
          replace Mx := Mx.mono by_
          have bt3 := below_then bt2 by_
          obtain rfl : mz = ny := Mx.rd.len.symm.trans ((keysP_len qs).trans Dy.len)
          have hmz := Mx.rd.small
          clear hout HO1 HND hnd hnd2 y02 y12 pt2 pd2 Dp2 bt2 by_
          obtain ⟨W5, hW5⟩ : ∃ v, wc = v := ⟨_, rfl⟩
          rw [hW5] at px py pt3 pd3 Mx Dy bt3 ⊢
          clear hW5
          have gxl := (Array.getElem?_eq_some_iff.1 px).1
          have gyl := (Array.getElem?_eq_some_iff.1 py).1
          have q0 : ∀ z : Later W5.heap.size W5, z.w.cell? ⟨gx, 0, none⟩ = some (.int .i64 (N : Nat)) := fun z => cell_of_row _ _ 0 _ _ _ ((z.below.block gx gxl).trans px)
          have q1 : ∀ z : Later W5.heap.size W5, z.w.cell? ⟨gx, 1, none⟩ = some (.slice kz mz kcz) := fun z => cell_of_row _ _ 1 _ _ _ ((z.below.block gx gxl).trans px)
          have q2 : ∀ z : Later W5.heap.size W5, z.w.cell? ⟨gx, 2, none⟩ = some (.slice sz slz scz) := fun z => cell_of_row _ _ 2 _ _ _ ((z.below.block gx gxl).trans px)
          have q3 : ∀ z : Later W5.heap.size W5, z.w.cell? ⟨gy, 1, none⟩ = some (.slice dy mz cy) := fun z => cell_of_row _ _ 1 _ _ _ ((z.below.block gy gyl).trans py)
          have nM := fun z : Later W5.heap.size W5 => manyP_any z.w (N : Nat) kz mz kcz sz slz scz hmz
          go_upto_region 20 with fail
          refine wp_region_later W5.heap.size W5 (by kernel_rfl) (by kernel_rfl) (Below.refl _ _) ?_
          repeat (go_big_quiet_step ((go_at_call 7; refine Calls.later0 (nM _))))
          refine wpQuiet_nil ?_
          intro _ hlat
          obtain ⟨z, rfl⟩ := hlat
          clear q0 q1 q2 q3 nM
          replace pt3 := (z.below.block gt (Array.getElem?_eq_some_iff.1 pt3).1).trans pt3
          replace pd3 := (z.below.block gd (Array.getElem?_eq_some_iff.1 pd3).1).trans pd3
          replace px := (z.below.block gx gxl).trans px
          replace py := (z.below.block gy gyl).trans py
          replace Mx := Mx.mono z.below
          replace Dy := Dy.mono z.below
          replace bt3 := below_then bt3 z.below
          go_upto_region 23 with (first | (refine wpList_load_row rfl 32 _ rfl gx rfl 32 _ _ _ px Try.underlying32 rfl (by kernel_rfl) ?_) | (refine store_rec rfl 32 (.tmp 9) (.tmp 129) rfl gt #[.int .i64 (N : Nat), .slice kz mz kcz, .slice sz slz scz] rfl rfl 32 _ pt3 (by kernel_rfl) rfl (by simp [Value.oneCell']) ?_; intro w6 g6 z6 o6 b6))
          have pd6 := (o6 gd (Ne.symm (Nat.ne_of_lt hne))).trans pd3
          have py6 := (o6 gy gyt).trans py
          have Mx6 := Mx.recd pt3 (by decide) (by decide) z6 (fun b hb => o6 b hb)
          have D6 := Dy.past (fun g vs hg => (o6 g (by rintro rfl; rw [pt3] at hg; simp at hg)).trans hg)
          replace bt3 := bt3.trans (b6.mono hB)
          clear pd3 py Mx Dy px pt3
          go_wp2_with (first | (refine wpList_load_row rfl 38 _ rfl gy rfl 38 _ _ _ py6 Try.underlying38 rfl (by kernel_rfl) ?_) | (refine store_rec rfl 38 (.tmp 11) (.tmp 130) rfl gd #[.int .i64 (N : Nat), .slice dy mz cy, .slice ey mz fy] rfl rfl 38 _ pd6 (by kernel_rfl) rfl (by simp [Value.oneCell']) ?_; intro w7 g7 z7 o7 b7))
          refine ⟨⟨j + 1, mz, kz, kcz, sz, slz, scz, sZ, rsZ, dy, ey, cy, fy, qs, by omega, by simp, HND2.out, (o7 gt (Nat.ne_of_lt hne)).trans g6, g7, Mx6.recd pd6 (by decide) (by decide) z7 (fun b hb => o7 b hb), D6.past (fun g vs hg => (o7 g (by rintro rfl; rw [pd6] at hg; simp at hg)).trans hg), bt3.trans (b7.mono hBd)⟩, by simp [intOf]; omega⟩
    · have f3 : decide (j < n) = false := by simpa using hjn
      obtain rfl : n = j := by omega
      obtain ⟨p0, hF1, hF2⟩ := findP_both ps hnd a0 b0 ha0 hb0
      obtain ⟨X, Y, E, hP1, hP2⟩ := pairP_both ps m Dp.len Dp.small Dp.lt i0
      have HF1 := Lib.hid hF1
      have HF2 := Lib.hid hF2
      have HP1 := Lib.hid hP1
      have HP2 := Lib.hid hP2
      clear hF1 hF2 hP1 hP2 hnd
      obtain ⟨V, hV⟩ : ∃ V, decide (pk a0 b0 ∈ keysP ps) = V := ⟨_, rfl⟩
      rw [hV] at HF1 HF2
      clear hV
      go_wp2_with (first | (refine wpList_load_row rfl 32 _ rfl gt rfl 32 _ _ _ pt Try.underlying32 rfl (by kernel_rfl) ?_) | fail)
      refine (HF1.out _ (N : Nat) ka m kc sa sl sc s rs Mt.rd).mono ?_
      rintro e w5 ⟨rfl, b5⟩
      replace pt := (b5.block gt (Array.getElem?_eq_some_iff.1 pt).1).trans pt
      replace pd := (b5.block gd (Array.getElem?_eq_some_iff.1 pd).1).trans pd
      replace Mt := Mt.mono b5
      replace Dp := Dp.mono b5
      replace bt := below_then bt b5
      clear b5
      clear HF1
      go_wp2_with (first | (refine wpList_load_row rfl 38 _ rfl gd rfl 38 _ _ _ pd Try.underlying38 rfl (by kernel_rfl) ?_) | fail)
      refine (HF2.out _ (N : Nat) da db m ca cb Dp).mono ?_
      rintro e w6 ⟨rfl, b5⟩
      replace pt := (b5.block gt (Array.getElem?_eq_some_iff.1 pt).1).trans pt
      replace pd := (b5.block gd (Array.getElem?_eq_some_iff.1 pd).1).trans pd
      replace Mt := Mt.mono b5
      replace Dp := Dp.mono b5
      replace bt := below_then bt b5
      clear b5
      clear HF2
      go_wp2_with (first | (refine wpList_load_row rfl 32 _ rfl gt rfl 32 _ _ _ pt Try.underlying32 rfl (by kernel_rfl) ?_) | fail)
      refine (HP1.out _ (N : Nat) ka kc sa sl sc s rs Mt.rd).mono ?_
      rintro e w7 ⟨rfl, b5⟩
      replace pt := (b5.block gt (Array.getElem?_eq_some_iff.1 pt).1).trans pt
      replace pd := (b5.block gd (Array.getElem?_eq_some_iff.1 pd).1).trans pd
      replace Mt := Mt.mono b5
      replace Dp := Dp.mono b5
      replace bt := below_then bt b5
      clear b5
      clear HP1
      go_wp2_with (first | (refine wpList_load_row rfl 38 _ rfl gd rfl 38 _ _ _ pd Try.underlying38 rfl (by kernel_rfl) ?_) | fail)
      refine (HP2.out _ (N : Nat) da db ca cb Dp).mono ?_
      rintro e w8 ⟨rfl, b5⟩
      replace pt := (b5.block gt (Array.getElem?_eq_some_iff.1 pt).1).trans pt
      replace pd := (b5.block gd (Array.getElem?_eq_some_iff.1 pd).1).trans pd
      replace Mt := Mt.mono b5
      replace Dp := Dp.mono b5
      replace bt := below_then bt b5
      clear b5
      clear HP2
      go_wp2_with fail
      go_ret
      exact ⟨rfl, bt⟩
end Go.Proofs.Ytoffcpfebghdnaa
