/- PairsOld returns true (by gen05o.py). -/
import Derived.Test.YtkdhdbfdggihiaaPairD
namespace Go.Proofs.Ytkdhdbfdggihiaa
open Go.RowKit
set_option linter.unusedVariables false
set_option linter.unusedSimpArgs false

set_option maxRecDepth 100000 in
set_option maxHeartbeats 8000000 in
theorem pairsold_any (w : World) (al : Option Addr) (n cl : Nat) (f : Nat → Nat × Nat) (hA : PrsAt w al n f) (a0 a1 b0 b1 : Nat) (ha0 : a0 < 4294967296) (ha1 : a1 < 4294967296) (hb0 : b0 < 4294967296) (hb1 : b1 < 4294967296) :
    Calls Try.prog 7 #[.slice al n cl, .agg #[.int .u32 (a0 : Nat), .int .u32 (a1 : Nat)], .agg #[.int .u32 (b0 : Nat), .int .u32 (b1 : Nat)]] w fun e w' => e = .returned (.bool true) ∧ Below w.heap.size w w' := by
  have nb := hA.small
  have bt0 : Below w.heap.size w ((w.alloc (.cells #[.int .u32 (a0 : Nat), .int .u32 (a1 : Nat)] 44)).alloc (.cells #[.int .u32 (b0 : Nat), .int .u32 (b1 : Nat)] 44)) := ((Below.refl _ _).alloc (Nat.le_refl _) _).alloc (by simp) _
  have pA := (Below.heap_alloc (w.alloc (.cells #[.int .u32 (a0 : Nat), .int .u32 (a1 : Nat)] 44)) (.cells #[.int .u32 (b0 : Nat), .int .u32 (b1 : Nat)] 44) w.heap.size (by simp)).trans (heap_alloc_new w (.cells #[.int .u32 (a0 : Nat), .int .u32 (a1 : Nat)] 44))
  have pB := heap_alloc_new (w.alloc (.cells #[.int .u32 (a0 : Nat), .int .u32 (a1 : Nat)] 44)) (.cells #[.int .u32 (b0 : Nat), .int .u32 (b1 : Nat)] 44)
  rw [World.size_alloc] at pB
  go_enter Try.func7, Try.ntmps7
  go_upto_region 1 with fail
  obtain ⟨W0, hv⟩ : ∃ v, (w.alloc (.cells #[.int .u32 (a0 : Nat), .int .u32 (a1 : Nat)] 44)).alloc (.cells #[.int .u32 (b0 : Nat), .int .u32 (b1 : Nat)] 44) = v := ⟨_, rfl⟩
  obtain ⟨gA, hgA⟩ : ∃ g, w.heap.size = g := ⟨_, rfl⟩
  obtain ⟨gB, hgB⟩ : ∃ g, w.heap.size + 1 = g := ⟨_, rfl⟩
  rw [hv] at bt0 pA pB ⊢
  rw [hgB] at pB ⊢
  have bt : Below w.heap.size w W0 := bt0
  have hAB : w.heap.size ≤ gA := Nat.le_of_eq hgA
  rw [hgA] at pA ⊢
  clear hv hgA hgB bt0
  go_wp2_with fail
  refine (shown_any _).mono ?_
  rintro e w0 ⟨rfl, bs⟩
  replace pA := (bs.block gA (Array.getElem?_eq_some_iff.1 pA).1).trans pA
  replace pB := (bs.block gB (Array.getElem?_eq_some_iff.1 pB).1).trans pB
  replace bt := below_then bt bs
  clear bs
  by_cases hn40 : 40 < n
  · have f1 : decide ((40 : Int) < (n : Int)) = true := by simp; omega
    go_wp2_with fail
    go_ret
    exact ⟨rfl, bt⟩
  have f1 : decide ((40 : Int) < (n : Int)) = false := by simp; omega
  go_wp2_with fail
  refine (newP_ok _ 100 (by decide)).mono ?_
  rintro e w1 ⟨rfl, b1⟩
  replace pA := (b1.block gA (Array.getElem?_eq_some_iff.1 pA).1).trans pA
  replace pB := (b1.block gB (Array.getElem?_eq_some_iff.1 pB).1).trans pB
  replace bt := below_then bt b1
  clear b1
  have hB := bt.size
  have A := (Below.refl w1.heap.size w1).alloc (Nat.le_refl _) (.cells #[.int .i64 100, .slice none 0 0, .slice none 0 0] 32)
  have pt : (w1.alloc (.cells #[.int .i64 100, .slice none 0 0, .slice none 0 0] 32)).heap[w1.heap.size]? = some (.cells #[.int .i64 100, .slice none 0 0, .slice none 0 0] 32 (0, 0)) := heap_alloc_new _ _
  replace pA := (A.block gA (Array.getElem?_eq_some_iff.1 pA).1).trans pA
  replace pB := (A.block gB (Array.getElem?_eq_some_iff.1 pB).1).trans pB
  replace bt := below_then bt A
  go_upto_region 5 with (first | (refine wpList_load_row rfl 44 _ rfl gA rfl 44 #[.int .u32 (a0 : Nat), .int .u32 (a1 : Nat)] (0, 0) _ pA Try.underlying44 rfl (by kernel_rfl) ?_) | (refine wpList_load_row rfl 44 _ rfl gB rfl 44 #[.int .u32 (b0 : Nat), .int .u32 (b1 : Nat)] (0, 0) _ pB Try.underlying44 rfl (by kernel_rfl) ?_) | fail)
  obtain ⟨v1, hv⟩ : ∃ v, w1.alloc (.cells #[.int .i64 100, .slice none 0 0, .slice none 0 0] 32) = v := ⟨_, rfl⟩
  obtain ⟨gt, hg⟩ : ∃ g, w1.heap.size = g := ⟨_, rfl⟩
  rw [hv] at pA pB pt bt ⊢
  rw [hg] at pt ⊢
  have hB2 := hB
  rw [hg] at hB2
  clear hv hg A hB
  have Mt := TabM.empty v1 w.heap.size
  go_wp2_with fail
  go_loopw [10] (fun i w' => ∃ (j m : Nat) (ka : Option Addr) (kc : Nat) (sa : Option Addr) (sl sc : Nat) (KS : List (List Nat)) (s : List Int) (rs : List (Nat × Nat)), j ≤ n ∧ i = .int .i64 (j : Nat) ∧ KS.Nodup ∧ KS.length ≤ j ∧ w'.heap[gt]? = some (.cells #[.int .i64 100, .slice ka m kc, .slice sa sl sc] 32 (0, 0)) ∧ TabM w' w.heap.size ka m kc sa sl sc KS s rs ∧ (w'.heap[gA]? = some (.cells #[.int .u32 (a0 : Nat), .int .u32 (a1 : Nat)] 44 (0, 0)) ∧ w'.heap[gB]? = some (.cells #[.int .u32 (b0 : Nat), .int .u32 (b1 : Nat)] 44 (0, 0))) ∧ Below w.heap.size w w') (fun i _ => n - (intOf i).toNat)
  case atStart => exact ⟨0, 0, none, 0, none, 0, 0, [], [], [], Nat.zero_le _, rfl, List.nodup_nil, Nat.le_refl _, pt, Mt, ⟨pA, pB⟩, bt⟩
  case round =>
    clear pt Mt pA pB bt
    obtain ⟨j, m, ka, kc, sa, sl, sc, KS, s, rs, hj, rfl, hnd, hkj, pt, Mt, ⟨pA, pB⟩, bt⟩ := hrel
    by_cases hjn : j < n
    · have f3 : decide (j < n) = true := by simpa using hjn
      obtain ⟨bl, ol, rfl, hbl, hact⟩ := hA.at_.resolve_left (by omega)
      have hlt := hA.lt j
      have hx := hact j hjn
      obtain ⟨⟨x, y⟩, hu⟩ : ∃ u, f j = u := ⟨_, rfl⟩
      rw [hu] at hx hlt
      simp only [] at hx hlt
      obtain ⟨hlx, hly⟩ := hlt
      have hblr : bl < wr.heap.size := Nat.lt_of_lt_of_le hbl bt.size
      have y0 : wr.cell? ⟨bl, ol + j * 2, none⟩ = some (.int .u32 (x : Nat)) := (bt.cell (p := ⟨bl, ol + j * 2, none⟩) hbl).trans hx.1
      have y1 : wr.cell? ⟨bl, ol + j * 2 + 1, none⟩ = some (.int .u32 (y : Nat)) := (bt.cell (p := ⟨bl, ol + j * 2 + 1, none⟩) hbl).trans hx.2
      clear hact hu hx
      go_upto_region 8 with fail
      go_cut [11, 12, 13, 14] from 44 to 69 (fun v11 v12 v13 v14 w' => ∃ (gx : Nat) (ka' : Option Addr) (n' kc' : Nat) (sa' : Option Addr) (sl' sc' : Nat) (KS' : List (List Nat)) (s' : List Int) (rs' : List (Nat × Nat)) (p : Nat) (F : Bool) (E : Int), v11 = .pointer (some ⟨gx, 0, none⟩) ∧ v12 = .int .i64 (p : Nat) ∧ v13 = .bool F ∧ v14 = .int .i64 E ∧ wr.heap.size ≤ gx ∧ w'.heap[gx]? = some (.cells #[.int .i64 100, .slice ka' n' kc', .slice sa' sl' sc'] 32 (0, 0)) ∧ TabM w' w.heap.size ka' n' kc' sa' sl' sc' KS' s' rs' ∧ TabM w' w.heap.size ka m kc sa sl sc KS s rs ∧ Below w.heap.size w w' ∧ KeptT wr w' w.heap.size ka m sa ka' n' sa' ∧ OutP 100 KS (pk x y) p F E KS' ∧ StayT wr w' F (ka' = ka ∧ n' = m ∧ kc' = kc ∧ sa' = sa ∧ sl' = sl ∧ sc' = sc))
      case first =>
        have bD : Below wr.heap.size wr wr.drew := (Below.refl _ _).drew
        have bAA : Below wr.heap.size wr (wr.alloc (.cells #[.int .i64 0, .slice none 0 0, .slice none 0 0] 32)).drew := ((Below.refl _ _).alloc (Nat.le_refl _) _).drew
        have ptD : wr.drew.heap[gt]? = some (.cells #[.int .i64 100, .slice ka m kc, .slice sa sl sc] 32 (0, 0)) := pt
        have gtl : gt < wr.heap.size := (Array.getElem?_eq_some_iff.1 pt).1
        have ptA := (bAA.block gt gtl).trans pt
        have MD := Mt.mono bD
        have MA := Mt.mono bAA
        have hBD := Nat.le_trans bt.size bD.size
        have hBA := Nat.le_trans bt.size bAA.size
        have hnt : gt ≠ wr.heap.size := Nat.ne_of_lt gtl
        have hnb : bl ≠ wr.heap.size := Nat.ne_of_lt hblr
        have gD0 : wr.drew.cell? ⟨gt, 0, none⟩ = some (.int .i64 100) := cell_of_row _ _ 0 _ _ _ ptD
        have gA0 : (wr.alloc (.cells #[.int .i64 0, .slice none 0 0, .slice none 0 0] 32)).drew.cell? ⟨gt, 0, none⟩ = some (.int .i64 100) := cell_of_row _ _ 0 _ _ _ ptA
        have gD1 : wr.drew.cell? ⟨gt, 1, none⟩ = some (.slice ka m kc) := cell_of_row _ _ 1 _ _ _ ptD
        have gA1 : (wr.alloc (.cells #[.int .i64 0, .slice none 0 0, .slice none 0 0] 32)).drew.cell? ⟨gt, 1, none⟩ = some (.slice ka m kc) := cell_of_row _ _ 1 _ _ _ ptA
        have gD2 : wr.drew.cell? ⟨gt, 2, none⟩ = some (.slice sa sl sc) := cell_of_row _ _ 2 _ _ _ ptD
        have gA2 : (wr.alloc (.cells #[.int .i64 0, .slice none 0 0, .slice none 0 0] 32)).drew.cell? ⟨gt, 2, none⟩ = some (.slice sa sl sc) := cell_of_row _ _ 2 _ _ _ ptA
        have yD0 : wr.drew.cell? ⟨bl, ol + j * 2, none⟩ = some (.int .u32 (x : Nat)) := y0
        have yA0 : (wr.alloc (.cells #[.int .i64 0, .slice none 0 0, .slice none 0 0] 32)).drew.cell? ⟨bl, ol + j * 2, none⟩ = some (.int .u32 (x : Nat)) := (bAA.cell (p := ⟨bl, ol + j * 2, none⟩) hblr).trans y0
        have yD1 : wr.drew.cell? ⟨bl, ol + j * 2 + 1, none⟩ = some (.int .u32 (y : Nat)) := y1
        have yA1 : (wr.alloc (.cells #[.int .i64 0, .slice none 0 0, .slice none 0 0] 32)).drew.cell? ⟨bl, ol + j * 2 + 1, none⟩ = some (.int .u32 (y : Nat)) := (bAA.cell (p := ⟨bl, ol + j * 2 + 1, none⟩) hblr).trans y1
        have zrowA : (wr.alloc (.cells #[.int .i64 0, .slice none 0 0, .slice none 0 0] 32)).drew.heap[wr.heap.size]? = some (.cells #[.int .i64 0, .slice none 0 0, .slice none 0 0] 32 (0, 0)) := heap_alloc_new wr _
        have hI1 := insertP_all wr.drew 100 (by decide) (by decide) w.heap.size ka m kc sa sl sc KS s rs MD hBD x y hlx hly hnd
        have hI2 := insertP_all (wr.alloc (.cells #[.int .i64 0, .slice none 0 0, .slice none 0 0] 32)).drew 100 (by decide) (by decide) w.heap.size ka m kc sa sl sc KS s rs MA hBA x y hlx hly hnd
        clear MD MA pt Mt
        go_region_held3 (fun w' => w'.cell? ⟨gt, 0, none⟩ = some (.int .i64 100) ∧ w'.cell? ⟨gt, 1, none⟩ = some (.slice ka m kc) ∧ w'.cell? ⟨gt, 2, none⟩ = some (.slice sa sl sc) ∧ w'.cell? ⟨bl, ol + j * 2, none⟩ = some (.int .u32 (x : Nat)) ∧ w'.cell? ⟨bl, ol + j * 2 + 1, none⟩ = some (.int .u32 (y : Nat)))
          (first | (refine ⟨?_, ?_, ?_, ?_, ?_⟩ <;> with_reducible assumption) | (refine ⟨?_, ?_, ?_, ?_, ?_⟩; with_reducible exact cellAlloc _ _ r0; with_reducible exact cellAlloc _ _ r1; with_reducible exact cellAlloc _ _ r2; with_reducible exact cellAlloc _ _ ry0; with_reducible exact cellAlloc _ _ ry1) | (refine ⟨?_, ?_, ?_, ?_, ?_⟩; with_reducible exact three_cellU _ _ _ _ _ _ _ hnt r0; with_reducible exact three_cellU _ _ _ _ _ _ _ hnt r1; with_reducible exact three_cellU _ _ _ _ _ _ _ hnt r2; with_reducible exact three_cellU _ _ _ _ _ _ _ hnb ry0; with_reducible exact three_cellU _ _ _ _ _ _ _ hnb ry1))
          (first | (go_at_call 12; (with_reducible refine hI1.mono ?_); rintro e ws ⟨ka', n', kc', sa', sl', sc', KS', s', rs', p, F, E, rfl, Hx, Ho, bx, HT, hout, hst⟩; have HO := Lib.hid hout; clear hout; have rt := HT.recd gt _ _ _ ptD (by decide) (by decide); have r0 : ws.cell? ⟨gt, 0, none⟩ = some (.int .i64 100) := cell_of_row _ _ 0 _ _ _ rt; have r1 : ws.cell? ⟨gt, 1, none⟩ = some (.slice ka m kc) := cell_of_row _ _ 1 _ _ _ rt; have r2 : ws.cell? ⟨gt, 2, none⟩ = some (.slice sa sl sc) := cell_of_row _ _ 2 _ _ _ rt; have ry0 : ws.cell? ⟨bl, ol + j * 2, none⟩ = some (.int .u32 (x : Nat)) := (bx.cell (p := ⟨bl, ol + j * 2, none⟩) (by first | assumption | omega)).trans yD0; have ry1 : ws.cell? ⟨bl, ol + j * 2 + 1, none⟩ = some (.int .u32 (y : Nat)) := (bx.cell (p := ⟨bl, ol + j * 2 + 1, none⟩) (by first | assumption | omega)).trans yD1; have HTW := HT.pre bD; have HST := hst.pre bD; clear hst; have bw : Below w.heap.size w ws := (bt.trans (bD.mono bt.size)).trans bx) | (go_at_call 12; (with_reducible refine hI2.mono ?_); rintro e ws ⟨ka', n', kc', sa', sl', sc', KS', s', rs', p, F, E, rfl, Hx, Ho, bx, HT, hout, hst⟩; have HO := Lib.hid hout; clear hout; have rt := HT.recd gt _ _ _ ptA (by decide) (by decide); have r0 : ws.cell? ⟨gt, 0, none⟩ = some (.int .i64 100) := cell_of_row _ _ 0 _ _ _ rt; have r1 : ws.cell? ⟨gt, 1, none⟩ = some (.slice ka m kc) := cell_of_row _ _ 1 _ _ _ rt; have r2 : ws.cell? ⟨gt, 2, none⟩ = some (.slice sa sl sc) := cell_of_row _ _ 2 _ _ _ rt; have ry0 : ws.cell? ⟨bl, ol + j * 2, none⟩ = some (.int .u32 (x : Nat)) := (bx.cell (p := ⟨bl, ol + j * 2, none⟩) (by first | assumption | omega)).trans yA0; have ry1 : ws.cell? ⟨bl, ol + j * 2 + 1, none⟩ = some (.int .u32 (y : Nat)) := (bx.cell (p := ⟨bl, ol + j * 2 + 1, none⟩) (by first | assumption | omega)).trans yA1; have HTW := HT.pre bAA; have HST := hst.pre bAA; clear hst; have bw : Below w.heap.size w ws := (bt.trans (bAA.mono bt.size)).trans bx; have gz := HT.recd wr.heap.size _ _ _ zrowA (by decide) (by decide); have v0 : ws.cell? ⟨wr.heap.size, 0, none⟩ = some (.int .i64 0) := cell_of_row _ _ 0 _ _ _ gz; have g0 := frozen_of_row ws wr.heap.size 0 _ _ gz; have v1 : ws.cell? ⟨wr.heap.size, 1, none⟩ = some (.slice none 0 0) := cell_of_row _ _ 1 _ _ _ gz; have g1 := frozen_of_row ws wr.heap.size 1 _ _ gz; have v2 : ws.cell? ⟨wr.heap.size, 2, none⟩ = some (.slice none 0 0) := cell_of_row _ _ 2 _ _ _ gz; have g2 := frozen_of_row ws wr.heap.size 2 _ _ gz))
        all_goals
          go_wp2_with fail
          go_meet
          have al := (Below.refl ws.heap.size ws).alloc (Nat.le_refl _) (.cells #[.int .i64 100, .slice ka' n' kc', .slice sa' sl' sc'] 32)
          have hgw := bt.size
          first
          | exact ⟨ws.heap.size, ka', n', kc', sa', sl', sc', KS', s', rs', p, F, E, rfl, rfl, rfl, rfl, HTW.size, heap_alloc_new _ _, Hx.mono al, Ho.mono al, bw.trans (al.mono (Nat.le_trans hgw HTW.size)), HTW.next_below al, HO.out, HST.next_below al⟩
          | exact ⟨wr.heap.size, ka', n', kc', sa', sl', sc', KS', s', rs', p, F, E, rfl, rfl, rfl, rfl, Nat.le_refl _, three_rowU _ _ _ _ _ _ _ _ _ gz, Hx.offrec gz (noU8_rec gz fun v hv m => by simp at hv; rcases hv with rfl | rfl | rfl <;> simp) (by decide) (by decide) (three_size _ _ _ _ _) (fun b hb => three_other _ _ _ _ _ _ hb), Ho.offrec gz (noU8_rec gz fun v hv m => by simp at hv; rcases hv with rfl | rfl | rfl <;> simp) (by decide) (by decide) (three_size _ _ _ _ _) (fun b hb => three_other _ _ _ _ _ _ hb), three_below bw hgw _ _ _, HTW.store (Nat.le_refl _) gz (noU8_rec gz fun v hv m => by simp at hv; rcases hv with rfl | rfl | rfl <;> simp) (by decide) (by decide) (three_size _ _ _ _ _) (fun b hb => three_other _ _ _ _ _ _ hb), HO.out, HST.next fun h => three_below h (Nat.le_refl _) _ _ _⟩
      case rest =>
        obtain ⟨gx, kz, mz, kcz, sz, slz, scz, KZ, sZ, rsZ, p, F, E, rfl, rfl, rfl, rfl, hgx, px, Mx, Mo, bx, HT, hout, hst⟩ := hcut
        have gtl : gt < wr.heap.size := (Array.getElem?_eq_some_iff.1 pt).1
        have hxt : gx ≠ gt := by omega
        have pt2 := HT.recd gt _ _ _ pt (by decide) (by decide)
        have pA2 := HT.recd gA _ _ _ pA (by decide) (by decide)
        have pB2 := HT.recd gB _ _ _ pB (by decide) (by decide)
        obtain ⟨rfl, rfl, rfl, hp, hpk, _⟩ := hout.room (by omega)
        have hnd2 := insK_nodup (key := pk x y) hnd
        have hln2 : (insK KS (pk x y)).length ≤ j + 1 := by rw [insK_len]; have := Bool.toNat_le (!decide (pk x y ∈ KS)); omega
        obtain ⟨K2, hK2⟩ : ∃ K, insK KS (pk x y) = K := ⟨_, rfl⟩
        rw [hK2] at Mx hnd2 hln2
        have HND := Lib.hid hnd2
        replace bt := bx
        have hneA : gA ≠ gt := by
          rintro rfl
          rw [pA2] at pt2
          simp at pt2
        have hneB : gB ≠ gt := by
          rintro rfl
          rw [pB2] at pt2
          simp at pt2
        clear pt Mt Mo pA pB y0 y1 hst HT hp hpk hK2 hnd2
        go_wp2_with (first | (refine wpList_load_row rfl 32 _ rfl gx rfl 32 _ _ _ px Try.underlying32 rfl (by kernel_rfl) ?_) | (refine store_rec rfl 32 (.tmp 8) (.tmp 69) rfl gt #[.int .i64 100, .slice kz mz kcz, .slice sz slz scz] rfl rfl 32 _ pt2 (by kernel_rfl) rfl (by simp [Value.oneCell']) ?_; intro w6 g6 z6 o6 b6))
        exact ⟨⟨j + 1, mz, kz, kcz, sz, slz, scz, _, sZ, rsZ, by omega, by simp, HND.out, hln2, g6, Mx.recd pt2 (by decide) (by decide) z6 (fun b hb => o6 b hb), ⟨(o6 gA hneA).trans pA2, (o6 gB hneB).trans pB2⟩, bt.trans (b6.mono hB2)⟩, by simp [intOf]; omega⟩
    · have f3 : decide (j < n) = false := by simpa using hjn
      obtain rfl : n = j := by omega
      have hm20 := Mt.rd.small
      have hml := Mt.rd.len
      have hm40 : m ≤ 40 := by omega
      obtain ⟨pa, ⟨ha1u, ha1m⟩, hF⟩ := findP_in KS hnd a0 a1 ha0 ha1
      have HF := Lib.hid hF
      have HAU := Lib.hid ha1u
      have HAM := Lib.hid ha1m
      have HML := Lib.hid hml
      have HKJ := Lib.hid hkj
      have HND := Lib.hid hnd
      obtain ⟨Wa, hWa⟩ : ∃ W, decide (pk a0 a1 ∈ KS) = W := ⟨_, rfl⟩
      rw [hWa] at HF
      have HWA := Lib.hid hWa
      clear f3 hF ha1u ha1m hml hkj hWa hnd
      go_wp2_with (first | (refine wpList_load_row rfl 32 _ rfl gt rfl 32 #[.int .i64 100, .slice ka m kc, .slice sa sl sc] (0, 0) _ pt Try.underlying32 rfl (by kernel_rfl) ?_) | fail)
      refine (manyP_any _ 100 ka m kc sa sl sc hm20).mono ?_
      rintro e w2 ⟨rfl, b1⟩
      replace pt := (b1.block gt (Array.getElem?_eq_some_iff.1 pt).1).trans pt
      replace pA := (b1.block gA (Array.getElem?_eq_some_iff.1 pA).1).trans pA
      replace pB := (b1.block gB (Array.getElem?_eq_some_iff.1 pB).1).trans pB
      replace Mt := Mt.mono b1
      replace bt := below_then bt b1
      clear b1
      have qA0 := cell_of_row _ _ 0 _ _ _ pA
      have qA1 := cell_of_row _ _ 1 _ _ _ pA
      simp only [List.getElem?_toArray, List.getElem?_cons_zero, List.getElem?_cons_succ] at qA0 qA1
      go_wp2_with (first | (refine wpList_load_row rfl 32 _ rfl gt rfl 32 #[.int .i64 100, .slice ka m kc, .slice sa sl sc] (0, 0) _ pt Try.underlying32 rfl (by kernel_rfl) ?_) | fail)
      refine (HF.out _ 100 ka m kc sa sl sc s rs Mt.rd).mono ?_
      rintro e w3 ⟨rfl, b1⟩
      replace pt := (b1.block gt (Array.getElem?_eq_some_iff.1 pt).1).trans pt
      replace pA := (b1.block gA (Array.getElem?_eq_some_iff.1 pA).1).trans pA
      replace pB := (b1.block gB (Array.getElem?_eq_some_iff.1 pB).1).trans pB
      replace Mt := Mt.mono b1
      replace bt := below_then bt b1
      clear b1 qA0 qA1
      have qA0 := cell_of_row _ _ 0 _ _ _ pA
      have qA1 := cell_of_row _ _ 1 _ _ _ pA
      simp only [List.getElem?_toArray, List.getElem?_cons_zero, List.getElem?_cons_succ] at qA0 qA1
      go_wp2_with (first | (refine wpList_load_row rfl 32 _ rfl gt rfl 32 #[.int .i64 100, .slice ka m kc, .slice sa sl sc] (0, 0) _ pt Try.underlying32 rfl (by kernel_rfl) ?_) | fail)
      refine (insertP_all _ 100 (by decide) (by decide) w.heap.size ka m kc sa sl sc KS s rs Mt bt.size a0 a1 ha0 ha1 HND.out).mono ?_
      rintro e w4 ⟨ka_x, n_x, kc_x, sa_x, sl_x, sc_x, ks_x, s_x, rs_x, p_x, F_x, E_x, rfl, Mx, Mo, bx, HT, hout, hst⟩
      clear qA0 qA1
      replace pt := HT.recd gt _ _ _ pt (by decide) (by decide)
      replace pA := HT.recd gA _ _ _ pA (by decide) (by decide)
      replace pB := HT.recd gB _ _ _ pB (by decide) (by decide)
      obtain ⟨hFx, rfl, hkx, hpx, hpkx, hfx⟩ := hout.room (by have := HKJ.out; omega)
      replace Mt := Mo
      replace bt := bt.trans bx
      have hnx : (ka_x = ka ∧ n_x = m ∧ kc_x = kc ∧ sa_x = sa ∧ sl_x = sl ∧ sc_x = sc ∧ ks_x = KS) ∨ Beside ka m sa ka_x n_x sa_x := by
        rcases hF : F_x with _ | _
        · obtain ⟨_, e1, e2, e3, e4, e5, e6⟩ := hst hF
          refine .inl ⟨e1, e2, e3, e4, e5, e6, ?_⟩
          rw [hF] at hFx
          have hm : pk a0 a1 ∈ KS := by simpa using hFx.symm
          rw [hkx]
          unfold insK
          rw [if_pos hm]
        · rcases HT.next with ⟨e1, e2, e3⟩ | h1
          · have h3 := Mx.rd.len
            rw [hF] at hFx
            have h4 := HML.out
            rw [hkx, insK_len] at h3
            rw [← hFx] at h3
            simp at h3
            omega
          · exact .inr h1
      have HFx := Lib.hid hFx
      have Hkx := Lib.hid hkx
      have Hpx := Lib.hid hpx
      have Hpkx := Lib.hid hpkx
      have Hfx := Lib.hid hfx
      have Hnx := Lib.hid hnx
      clear hFx hkx hpx hpkx hfx hnx Mo bx HT hout hst
      have A := (Below.refl w4.heap.size w4).alloc (Nat.le_refl _) (.cells #[.int .i64 100, .slice ka_x n_x kc_x, .slice sa_x sl_x sc_x] 32)
      have px : (w4.alloc (.cells #[.int .i64 100, .slice ka_x n_x kc_x, .slice sa_x sl_x sc_x] 32)).heap[w4.heap.size]? = some (.cells #[.int .i64 100, .slice ka_x n_x kc_x, .slice sa_x sl_x sc_x] 32 (0, 0)) := heap_alloc_new _ _
      replace pt := (A.block gt (Array.getElem?_eq_some_iff.1 pt).1).trans pt
      replace pA := (A.block gA (Array.getElem?_eq_some_iff.1 pA).1).trans pA
      replace pB := (A.block gB (Array.getElem?_eq_some_iff.1 pB).1).trans pB
      replace Mt := Mt.mono A
      replace Mx := Mx.mono A
      replace bt := below_then bt A
      go_upto_region 15 with (first | (refine wpList_load_row rfl 32 _ rfl gt rfl 32 #[.int .i64 100, .slice ka m kc, .slice sa sl sc] (0, 0) _ pt Try.underlying32 rfl (by kernel_rfl) ?_) | (refine wpList_load_row rfl 44 _ rfl gA rfl 44 #[.int .u32 (a0 : Nat), .int .u32 (a1 : Nat)] (0, 0) _ pA Try.underlying44 rfl (by kernel_rfl) ?_) | (refine wpList_load_row rfl 44 _ rfl gB rfl 44 #[.int .u32 (b0 : Nat), .int .u32 (b1 : Nat)] (0, 0) _ pB Try.underlying44 rfl (by kernel_rfl) ?_) | fail)
      obtain ⟨v5, hv⟩ : ∃ v, w4.alloc (.cells #[.int .i64 100, .slice ka_x n_x kc_x, .slice sa_x sl_x sc_x] 32) = v := ⟨_, rfl⟩
      obtain ⟨gx, hg⟩ : ∃ g, w4.heap.size = g := ⟨_, rfl⟩
      rw [hv] at pt pA pB px Mt Mx bt ⊢
      rw [hg] at px ⊢
      clear hv hg A
      have qB0 := cell_of_row _ _ 0 _ _ _ pB
      have qB1 := cell_of_row _ _ 1 _ _ _ pB
      simp only [List.getElem?_toArray, List.getElem?_cons_zero, List.getElem?_cons_succ] at qB0 qB1
      go_wp2_with (first | (refine wpList_load_row rfl 32 _ rfl gt rfl 32 #[.int .i64 100, .slice ka m kc, .slice sa sl sc] (0, 0) _ pt Try.underlying32 rfl (by kernel_rfl) ?_) | fail)
      refine (insertP_all _ 100 (by decide) (by decide) w.heap.size ka m kc sa sl sc KS s rs Mt bt.size b0 b1 hb0 hb1 HND.out).mono ?_
      rintro e w6 ⟨ka_y, n_y, kc_y, sa_y, sl_y, sc_y, ks_y, s_y, rs_y, p_y, F_y, E_y, rfl, My, Mo, bx, HT, hout, hst⟩
      clear qB0 qB1
      replace pt := HT.recd gt _ _ _ pt (by decide) (by decide)
      replace pA := HT.recd gA _ _ _ pA (by decide) (by decide)
      replace pB := HT.recd gB _ _ _ pB (by decide) (by decide)
      replace px := HT.recd gx _ _ _ px (by decide) (by decide)
      obtain ⟨hFy, rfl, hky, hpy, hpky, hfy⟩ := hout.room (by have := HKJ.out; omega)
      obtain ⟨sx2, rsx2, Mx2⟩ := HT.also Mo Mx Hnx.out
      replace Mt := Mo
      replace bt := bt.trans bx
      have HFy := Lib.hid hFy
      have Hky := Lib.hid hky
      have Hpy := Lib.hid hpy
      have Hpky := Lib.hid hpky
      have Hfy := Lib.hid hfy
      clear hFy hky hpy hpky hfy Mo Mx bx HT hout hst
      have A := (Below.refl w6.heap.size w6).alloc (Nat.le_refl _) (.cells #[.int .i64 100, .slice ka_y n_y kc_y, .slice sa_y sl_y sc_y] 32)
      have py : (w6.alloc (.cells #[.int .i64 100, .slice ka_y n_y kc_y, .slice sa_y sl_y sc_y] 32)).heap[w6.heap.size]? = some (.cells #[.int .i64 100, .slice ka_y n_y kc_y, .slice sa_y sl_y sc_y] 32 (0, 0)) := heap_alloc_new _ _
      replace pt := (A.block gt (Array.getElem?_eq_some_iff.1 pt).1).trans pt
      replace pA := (A.block gA (Array.getElem?_eq_some_iff.1 pA).1).trans pA
      replace pB := (A.block gB (Array.getElem?_eq_some_iff.1 pB).1).trans pB
      replace px := (A.block gx (Array.getElem?_eq_some_iff.1 px).1).trans px
      replace Mt := Mt.mono A
      replace Mx2 := Mx2.mono A
      replace My := My.mono A
      replace bt := below_then bt A
      go_upto_region 16 with (first | (refine wpList_load_row rfl 32 _ rfl gt rfl 32 #[.int .i64 100, .slice ka m kc, .slice sa sl sc] (0, 0) _ pt Try.underlying32 rfl (by kernel_rfl) ?_) | (refine wpList_load_row rfl 44 _ rfl gA rfl 44 #[.int .u32 (a0 : Nat), .int .u32 (a1 : Nat)] (0, 0) _ pA Try.underlying44 rfl (by kernel_rfl) ?_) | (refine wpList_load_row rfl 44 _ rfl gB rfl 44 #[.int .u32 (b0 : Nat), .int .u32 (b1 : Nat)] (0, 0) _ pB Try.underlying44 rfl (by kernel_rfl) ?_) | (refine wpList_load_row rfl 32 _ rfl gx rfl 32 #[.int .i64 100, .slice ka_x n_x kc_x, .slice sa_x sl_x sc_x] (0, 0) _ px Try.underlying32 rfl (by kernel_rfl) ?_) | fail)
      obtain ⟨v7, hv⟩ : ∃ v, w6.alloc (.cells #[.int .i64 100, .slice ka_y n_y kc_y, .slice sa_y sl_y sc_y] 32) = v := ⟨_, rfl⟩
      obtain ⟨gy, hg⟩ : ∃ g, w6.heap.size = g := ⟨_, rfl⟩
      rw [hv] at pt pA pB px py Mt Mx2 My bt ⊢
      rw [hg] at py ⊢
      clear hv hg A
      have qA0 := cell_of_row _ _ 0 _ _ _ pA
      have qA1 := cell_of_row _ _ 1 _ _ _ pA
      simp only [List.getElem?_toArray, List.getElem?_cons_zero, List.getElem?_cons_succ] at qA0 qA1
      go_wp2_with (first | (refine wpList_load_row rfl 32 _ rfl gt rfl 32 #[.int .i64 100, .slice ka m kc, .slice sa sl sc] (0, 0) _ pt Try.underlying32 rfl (by kernel_rfl) ?_) | fail)
      refine (HF.out _ 100 ka m kc sa sl sc s rs Mt.rd).mono ?_
      rintro e w8 ⟨rfl, b1⟩
      replace pt := (b1.block gt (Array.getElem?_eq_some_iff.1 pt).1).trans pt
      replace pA := (b1.block gA (Array.getElem?_eq_some_iff.1 pA).1).trans pA
      replace pB := (b1.block gB (Array.getElem?_eq_some_iff.1 pB).1).trans pB
      replace px := (b1.block gx (Array.getElem?_eq_some_iff.1 px).1).trans px
      replace py := (b1.block gy (Array.getElem?_eq_some_iff.1 py).1).trans py
      replace Mt := Mt.mono b1
      replace Mx2 := Mx2.mono b1
      replace My := My.mono b1
      replace bt := below_then bt b1
      clear b1 qA0 qA1
      go_wp2_with (first | (refine wpList_load_row rfl 32 _ rfl gt rfl 32 #[.int .i64 100, .slice ka m kc, .slice sa sl sc] (0, 0) _ pt Try.underlying32 rfl (by kernel_rfl) ?_) | fail)
      refine (pairP_bad _ 100 ka m kc sa sl sc (m : Nat) (by omega) hm20).mono ?_
      rintro e w9 ⟨rfl, b1⟩
      replace pt := (b1.block gt (Array.getElem?_eq_some_iff.1 pt).1).trans pt
      replace pA := (b1.block gA (Array.getElem?_eq_some_iff.1 pA).1).trans pA
      replace pB := (b1.block gB (Array.getElem?_eq_some_iff.1 pB).1).trans pB
      replace px := (b1.block gx (Array.getElem?_eq_some_iff.1 px).1).trans px
      replace py := (b1.block gy (Array.getElem?_eq_some_iff.1 py).1).trans py
      replace Mt := Mt.mono b1
      replace Mx2 := Mx2.mono b1
      replace My := My.mono b1
      replace bt := below_then bt b1
      clear b1
      obtain ⟨ix, ⟨hx1u, hx1m⟩, hFx2⟩ := findP_in ks_x (by rw [Hkx.out]; exact insK_nodup HND.out) a0 a1 ha0 ha1
      obtain rfl : p_x = ix := hx1u _ Hpx.out Hpkx.out
      have hxin : decide (pk a0 a1 ∈ ks_x) = true := by rw [Hkx.out, insK_has]; simp
      rw [hxin] at hFx2
      have HFX := Lib.hid hFx2
      clear hx1u hx1m hFx2 hxin
      have qA0 := cell_of_row _ _ 0 _ _ _ pA
      have qA1 := cell_of_row _ _ 1 _ _ _ pA
      simp only [List.getElem?_toArray, List.getElem?_cons_zero, List.getElem?_cons_succ] at qA0 qA1
      go_wp2_with (first | (refine wpList_load_row rfl 32 _ rfl gx rfl 32 #[.int .i64 100, .slice ka_x n_x kc_x, .slice sa_x sl_x sc_x] (0, 0) _ px Try.underlying32 rfl (by kernel_rfl) ?_) | fail)
      refine (HFX.out _ 100 ka_x n_x kc_x sa_x sl_x sc_x sx2 rsx2 Mx2.rd).mono ?_
      rintro e w10 ⟨rfl, b1⟩
      replace pt := (b1.block gt (Array.getElem?_eq_some_iff.1 pt).1).trans pt
      replace pA := (b1.block gA (Array.getElem?_eq_some_iff.1 pA).1).trans pA
      replace pB := (b1.block gB (Array.getElem?_eq_some_iff.1 pB).1).trans pB
      replace px := (b1.block gx (Array.getElem?_eq_some_iff.1 px).1).trans px
      replace py := (b1.block gy (Array.getElem?_eq_some_iff.1 py).1).trans py
      replace Mt := Mt.mono b1
      replace Mx2 := Mx2.mono b1
      replace My := My.mono b1
      replace bt := below_then bt b1
      clear b1 qA0 qA1
      obtain ⟨iy, _, hFy2⟩ := findP_in ks_y (by rw [Hky.out]; exact insK_nodup HND.out) a0 a1 ha0 ha1
      have hyin : decide (pk a0 a1 ∈ ks_y) = (Wa || decide (pk a0 a1 = pk b0 b1)) := by rw [Hky.out, insK_has, HWA.out]
      obtain ⟨Wy, hWy⟩ : ∃ W, decide (pk a0 a1 ∈ ks_y) = W := ⟨_, rfl⟩
      rw [hWy] at hFy2 hyin
      have HFY := Lib.hid hFy2
      have HYIN := Lib.hid hyin
      clear hFy2 hyin hWy
      have qA0 := cell_of_row _ _ 0 _ _ _ pA
      have qA1 := cell_of_row _ _ 1 _ _ _ pA
      simp only [List.getElem?_toArray, List.getElem?_cons_zero, List.getElem?_cons_succ] at qA0 qA1
      go_upto_region 19 with fail
      go_wp2_with (first | (refine wpList_load_row rfl 32 _ rfl gy rfl 32 #[.int .i64 100, .slice ka_y n_y kc_y, .slice sa_y sl_y sc_y] (0, 0) _ py Try.underlying32 rfl (by kernel_rfl) ?_) | fail)
      refine (HFY.out _ 100 ka_y n_y kc_y sa_y sl_y sc_y s_y rs_y My.rd).mono ?_
      rintro e w11 ⟨rfl, b1⟩
      replace pt := (b1.block gt (Array.getElem?_eq_some_iff.1 pt).1).trans pt
      replace pA := (b1.block gA (Array.getElem?_eq_some_iff.1 pA).1).trans pA
      replace pB := (b1.block gB (Array.getElem?_eq_some_iff.1 pB).1).trans pB
      replace px := (b1.block gx (Array.getElem?_eq_some_iff.1 px).1).trans px
      replace py := (b1.block gy (Array.getElem?_eq_some_iff.1 py).1).trans py
      replace Mt := Mt.mono b1
      replace Mx2 := Mx2.mono b1
      replace My := My.mono b1
      replace bt := below_then bt b1
      clear b1 qA0 qA1
      have qt0 := cell_of_row _ _ 0 _ _ _ pt
      have qt1 := cell_of_row _ _ 1 _ _ _ pt
      have qt2 := cell_of_row _ _ 2 _ _ _ pt
      have qA0 := cell_of_row _ _ 0 _ _ _ pA
      have qA1 := cell_of_row _ _ 1 _ _ _ pA
      have qB0 := cell_of_row _ _ 0 _ _ _ pB
      have qB1 := cell_of_row _ _ 1 _ _ _ pB
      simp only [List.getElem?_toArray, List.getElem?_cons_zero, List.getElem?_cons_succ] at qt0 qt1 qt2 qA0 qA1 qB0 qB1
      go_wp2_with fail
      simp only [List.append_eq, List.cons_append, List.nil_append]
      go_wp2_with fail
      refine (manyP_any _ 100 ka m kc sa sl sc hm20).mono ?_
      rintro e wz ⟨rfl, b1⟩
      replace pA := (b1.block gA (Array.getElem?_eq_some_iff.1 pA).1).trans pA
      replace pB := (b1.block gB (Array.getElem?_eq_some_iff.1 pB).1).trans pB
      replace bt := below_then bt b1
      clear qt0 qt1 qt2 qA0 qA1 qB0 qB1 b1
      have qA0 := cell_of_row _ _ 0 _ _ _ pA
      have qA1 := cell_of_row _ _ 1 _ _ _ pA
      simp only [List.getElem?_toArray, List.getElem?_cons_zero, List.getElem?_cons_succ] at qA0 qA1
      have qB0 := cell_of_row _ _ 0 _ _ _ pB
      have qB1 := cell_of_row _ _ 1 _ _ _ pB
      simp only [List.getElem?_toArray, List.getElem?_cons_zero, List.getElem?_cons_succ] at qB0 qB1
      obtain ⟨EQ, hEQ⟩ : ∃ E, decide (pk a0 a1 = pk b0 b1) = E := ⟨_, rfl⟩
      have hWyy := HYIN.out
      rw [hEQ] at hWyy
      have hFxx : F_x = !Wa := by rw [← HWA.out]; exact HFx.out
      have hpxx : Wa = false → p_x = m := fun h => by rw [Hfx.out (by rw [hFxx, h]; rfl), HML.out]
      have hpyy : F_y = true → p_y = m := fun h => by rw [Hfy.out h, HML.out]
      obtain ⟨Fy, hFyy⟩ : ∃ F, F_y = F := ⟨_, rfl⟩
      rw [hFyy] at hpyy ⊢
      clear hFyy
      subst hFxx hWyy
      have heq := eq_pair (a0 : Int) (a1 : Int) (b0 : Int) (b1 : Int) wz
      rw [pk_eq ha0 ha1 hb0 hb1, hEQ] at heq
      have HEQ := Lib.hid hEQ
      clear hEQ
      cases Wa with
      | true =>
        clear hpxx
        cases Fy with
        | true =>
          obtain rfl := hpyy rfl
          go_wp2_with fail
          go_ret
          exact ⟨rfl, bt⟩
        | false =>
          go_wp2_with fail
          go_ret
          exact ⟨rfl, bt⟩
      | false =>
        obtain rfl := hpxx rfl
        cases Fy with
        | true =>
          obtain rfl := hpyy rfl
          go_wp2_with fail
          go_ret
          exact ⟨rfl, bt⟩
        | false =>
          go_wp2_with fail
          go_ret
          exact ⟨rfl, bt⟩
end Go.Proofs.Ytkdhdbfdggihiaa
