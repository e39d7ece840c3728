/- FlatOld returns true (by gen06o.py). -/
import Derived.Test.YtgfiampcjgdojaaFlatD
namespace Go.Proofs.Ytgfiampcjgdojaa
open Go.RowKit
set_option linter.unusedVariables false
set_option linter.unusedSimpArgs false

set_option maxRecDepth 100000 in
set_option maxHeartbeats 8000000 in
theorem flatold_any (w : World) (al : Option Addr) (n cl : Nat) (fA : Nat → ActD) (hA : ActsAt w al n fA) (ya : Option Addr) (yl yc : Nat) (y : List Nat) (hy : BytesAt w ya yl yc y) (f : Nat) (hf : f < 256) :
    Calls Try.prog 6 #[.slice al n cl, .slice ya yl yc, .int .u8 (f : Nat)] w fun e w' => e = .returned (.bool true) ∧ Below w.heap.size w w' := by
  have nb := hA.small
  have yb := hy.small
  have bt : Below w.heap.size w w := Below.refl _ _
  go_enter Try.func6, Try.ntmps6
  go_wp2_with fail
  refine (shown_any _).mono ?_
  rintro e w0 ⟨rfl, bs⟩
  replace bt := below_then bt bs
  clear bs
  go_wp2_with fail
  refine (few_any _ al n cl fA 30 (hA.mono bt)).mono ?_
  rintro e w00 ⟨⟨fb, rfl, hfew⟩, rfl⟩
  cases fb with
  | false =>
    go_wp2_with fail
    go_ret
    exact ⟨rfl, bt⟩
  | true =>
  obtain ⟨hn30, hkl⟩ := hfew rfl
  have HKL := Lib.hid hkl
  clear hfew hkl
  by_cases hy200 : 200 < yl
  · have f1 : decide ((200 : Int) < (yl : Int)) = true := by simp; omega
    go_wp2_with fail
    go_ret
    exact ⟨rfl, bt⟩
  have f1 : decide ((200 : Int) < (yl : Int)) = false := by simp; omega
  go_wp2_with fail
  refine (newF_ok _ 100 (by decide)).mono ?_
  rintro e w1 ⟨rfl, b1⟩
  replace bt := below_then bt b1
  clear b1
  have hB := bt.size
  have A := (Below.refl w1.heap.size w1).alloc (Nat.le_refl _) (.cells #[.int .i64 100, .slice none 0 0, .slice none 0 0, .slice none 0 0] 31)
  have pt : (w1.alloc (.cells #[.int .i64 100, .slice none 0 0, .slice none 0 0, .slice none 0 0] 31)).heap[w1.heap.size]? = some (.cells #[.int .i64 100, .slice none 0 0, .slice none 0 0, .slice none 0 0] 31 (0, 0)) := heap_alloc_new _ _
  replace bt := below_then bt A
  go_upto_region 5 with (first | fail)
  obtain ⟨v1, hv⟩ : ∃ v, w1.alloc (.cells #[.int .i64 100, .slice none 0 0, .slice none 0 0, .slice none 0 0] 31) = v := ⟨_, rfl⟩
  obtain ⟨gt, hg⟩ : ∃ g, w1.heap.size = g := ⟨_, rfl⟩
  rw [hv] at pt bt ⊢
  rw [hg] at pt ⊢
  have hB2 := hB
  rw [hg] at hB2
  clear hv hg A hB
  have Mt := TabM.empty v1 w.heap.size
  go_wp2_with fail
  go_loopw [10] (fun i w' => ∃ (j m : Nat) (ka : Option Addr) (kc : Nat) (sa : Option Addr) (sl sc : Nat) (KS : List (List Nat)) (s : List Int) (rs : List (Nat × Nat)), j ≤ n ∧ i = .int .i64 (j : Nat) ∧ KS.Nodup ∧ KS.length ≤ j ∧ w'.heap[gt]? = some (.cells #[.int .i64 100, .slice ka m kc, .slice sa sl sc, .slice none 0 0] 31 (0, 0)) ∧ TabM w' w.heap.size ka m kc sa sl sc KS s rs ∧ Below w.heap.size w w') (fun i _ => n - (intOf i).toNat)
  case atStart => exact ⟨0, 0, none, 0, none, 0, 0, [], [], [], Nat.zero_le _, rfl, List.nodup_nil, Nat.le_refl _, pt, Mt, bt⟩
  case round =>
    clear pt Mt bt
    obtain ⟨j, m, ka, kc, sa, sl, sc, KS, s, rs, hj, rfl, hnd, hkj, pt, Mt, bt⟩ := hrel
    by_cases hjn : j < n
    · have f3 : decide (j < n) = true := by simpa using hjn
      obtain ⟨bl, ol, rfl, hbl, hact⟩ := hA.at_.resolve_left (by omega)
      have hx := hact j hjn
      have hxl := HKL.out j hjn
      obtain ⟨⟨xk0, xa, xl, xc, xk, xf⟩, hu⟩ : ∃ u, fA j = u := ⟨_, rfl⟩
      rw [hu] at hx hxl
      simp only [] at hxl
      have hblr : bl < wr.heap.size := Nat.lt_of_lt_of_le hbl bt.size
      have hkx : BytesAt wr xa xl xc xk := hx.key.mono bt
      have y0 : wr.cell? ⟨bl, ol + j * 3 + 1, none⟩ = some (.slice xa xl xc) := (bt.cell (p := ⟨bl, ol + j * 3 + 1, none⟩) hbl).trans hx.c1
      clear hact hu hx
      go_upto_region 8 with fail
      go_cut [11, 12, 13] from 42 to 61 (fun v11 v12 v13 w' => ∃ (gx : Nat) (ka' : Option Addr) (n' kc' : Nat) (sa' : Option Addr) (sl' sc' : Nat) (KS' : List (List Nat)) (s' : List Int) (rs' : List (Nat × Nat)) (p : Nat) (F : Bool) (E : Int), v11 = .pointer (some ⟨gx, 0, none⟩) ∧ v12 = .bool F ∧ v13 = .int .i64 E ∧ wr.heap.size ≤ gx ∧ w'.heap[gx]? = some (.cells #[.int .i64 100, .slice ka' n' kc', .slice sa' sl' sc', .slice none 0 0] 31 (0, 0)) ∧ TabM w' w.heap.size ka' n' kc' sa' sl' sc' KS' s' rs' ∧ TabM w' w.heap.size ka m kc sa sl sc KS s rs ∧ Below w.heap.size w w' ∧ KeptT wr w' w.heap.size ka m sa ka' n' sa' ∧ OutP 100 KS xk p F E KS' ∧ StayT wr w' F (ka' = ka ∧ n' = m ∧ kc' = kc ∧ sa' = sa ∧ sl' = sl ∧ sc' = sc))
      case first =>
        have bD : Below wr.heap.size wr wr.drew := (Below.refl _ _).drew
        have bAA : Below wr.heap.size wr (wr.alloc (.cells #[.int .i64 0, .slice none 0 0, .slice none 0 0, .slice none 0 0] 31)).drew := ((Below.refl _ _).alloc (Nat.le_refl _) _).drew
        have ptD : wr.drew.heap[gt]? = some (.cells #[.int .i64 100, .slice ka m kc, .slice sa sl sc, .slice none 0 0] 31 (0, 0)) := pt
        have gtl : gt < wr.heap.size := (Array.getElem?_eq_some_iff.1 pt).1
        have ptA := (bAA.block gt gtl).trans pt
        have MD := Mt.mono bD
        have MA := Mt.mono bAA
        have hBD := Nat.le_trans bt.size bD.size
        have hBA := Nat.le_trans bt.size bAA.size
        have hnt : gt ≠ wr.heap.size := Nat.ne_of_lt gtl
        have hnb : bl ≠ wr.heap.size := Nat.ne_of_lt hblr
        have gD0 : wr.drew.cell? ⟨gt, 0, none⟩ = some (.int .i64 100) := cell_of_row _ _ 0 _ _ _ ptD
        have gA0 : (wr.alloc (.cells #[.int .i64 0, .slice none 0 0, .slice none 0 0, .slice none 0 0] 31)).drew.cell? ⟨gt, 0, none⟩ = some (.int .i64 100) := cell_of_row _ _ 0 _ _ _ ptA
        have gD1 : wr.drew.cell? ⟨gt, 1, none⟩ = some (.slice ka m kc) := cell_of_row _ _ 1 _ _ _ ptD
        have gA1 : (wr.alloc (.cells #[.int .i64 0, .slice none 0 0, .slice none 0 0, .slice none 0 0] 31)).drew.cell? ⟨gt, 1, none⟩ = some (.slice ka m kc) := cell_of_row _ _ 1 _ _ _ ptA
        have gD2 : wr.drew.cell? ⟨gt, 2, none⟩ = some (.slice sa sl sc) := cell_of_row _ _ 2 _ _ _ ptD
        have gA2 : (wr.alloc (.cells #[.int .i64 0, .slice none 0 0, .slice none 0 0, .slice none 0 0] 31)).drew.cell? ⟨gt, 2, none⟩ = some (.slice sa sl sc) := cell_of_row _ _ 2 _ _ _ ptA
        have gD3 : wr.drew.cell? ⟨gt, 3, none⟩ = some (.slice none 0 0) := cell_of_row _ _ 3 _ _ _ ptD
        have gA3 : (wr.alloc (.cells #[.int .i64 0, .slice none 0 0, .slice none 0 0, .slice none 0 0] 31)).drew.cell? ⟨gt, 3, none⟩ = some (.slice none 0 0) := cell_of_row _ _ 3 _ _ _ ptA
        have yD0 : wr.drew.cell? ⟨bl, ol + j * 3 + 1, none⟩ = some (.slice xa xl xc) := y0
        have yA0 : (wr.alloc (.cells #[.int .i64 0, .slice none 0 0, .slice none 0 0, .slice none 0 0] 31)).drew.cell? ⟨bl, ol + j * 3 + 1, none⟩ = some (.slice xa xl xc) := (bAA.cell (p := ⟨bl, ol + j * 3 + 1, none⟩) hblr).trans y0
        have zrowA : (wr.alloc (.cells #[.int .i64 0, .slice none 0 0, .slice none 0 0, .slice none 0 0] 31)).drew.heap[wr.heap.size]? = some (.cells #[.int .i64 0, .slice none 0 0, .slice none 0 0, .slice none 0 0] 31 (0, 0)) := heap_alloc_new wr _
        have hI1 := insertF_all wr.drew 100 (by decide) (by decide) w.heap.size ka m kc sa sl sc none 0 0 KS s rs MD hBD xa xl xc xk (hkx.mono bD) (by omega) hnd
        have hI2 := insertF_all (wr.alloc (.cells #[.int .i64 0, .slice none 0 0, .slice none 0 0, .slice none 0 0] 31)).drew 100 (by decide) (by decide) w.heap.size ka m kc sa sl sc none 0 0 KS s rs MA hBA xa xl xc xk (hkx.mono bAA) (by omega) hnd
        clear MD MA pt Mt
        go_region_held3 (fun w' => w'.cell? ⟨gt, 0, none⟩ = some (.int .i64 100) ∧ w'.cell? ⟨gt, 1, none⟩ = some (.slice ka m kc) ∧ w'.cell? ⟨gt, 2, none⟩ = some (.slice sa sl sc) ∧ w'.cell? ⟨gt, 3, none⟩ = some (.slice none 0 0) ∧ w'.cell? ⟨bl, ol + j * 3 + 1, none⟩ = some (.slice xa xl xc))
          (first | (refine ⟨?_, ?_, ?_, ?_, ?_⟩ <;> with_reducible assumption) | (refine ⟨?_, ?_, ?_, ?_, ?_⟩; with_reducible exact cellAlloc _ _ r0; with_reducible exact cellAlloc _ _ r1; with_reducible exact cellAlloc _ _ r2; with_reducible exact cellAlloc _ _ r3; with_reducible exact cellAlloc _ _ ry0) | (refine ⟨?_, ?_, ?_, ?_, ?_⟩; with_reducible exact four_cellU _ _ _ _ _ _ _ _ hnt r0; with_reducible exact four_cellU _ _ _ _ _ _ _ _ hnt r1; with_reducible exact four_cellU _ _ _ _ _ _ _ _ hnt r2; with_reducible exact four_cellU _ _ _ _ _ _ _ _ hnt r3; with_reducible exact four_cellU _ _ _ _ _ _ _ _ hnb ry0))
          (first | (go_at_call 12; (with_reducible refine hI1.mono ?_); rintro e ws ⟨ka', n', kc', sa', sl', sc', KS', s', rs', p, F, E, rfl, Hx, Ho, bx, HT, hout, hst⟩; have HO := Lib.hid hout; clear hout; have rt := HT.recd gt _ _ _ ptD (by decide) (by decide); have r0 : ws.cell? ⟨gt, 0, none⟩ = some (.int .i64 100) := cell_of_row _ _ 0 _ _ _ rt; have r1 : ws.cell? ⟨gt, 1, none⟩ = some (.slice ka m kc) := cell_of_row _ _ 1 _ _ _ rt; have r2 : ws.cell? ⟨gt, 2, none⟩ = some (.slice sa sl sc) := cell_of_row _ _ 2 _ _ _ rt; have r3 : ws.cell? ⟨gt, 3, none⟩ = some (.slice none 0 0) := cell_of_row _ _ 3 _ _ _ rt; have ry0 : ws.cell? ⟨bl, ol + j * 3 + 1, none⟩ = some (.slice xa xl xc) := (bx.cell (p := ⟨bl, ol + j * 3 + 1, none⟩) (by first | assumption | omega)).trans yD0; have HTW := HT.pre bD; have HST := hst.pre bD; clear hst; have bw : Below w.heap.size w ws := (bt.trans (bD.mono bt.size)).trans bx) | (go_at_call 12; (with_reducible refine hI2.mono ?_); rintro e ws ⟨ka', n', kc', sa', sl', sc', KS', s', rs', p, F, E, rfl, Hx, Ho, bx, HT, hout, hst⟩; have HO := Lib.hid hout; clear hout; have rt := HT.recd gt _ _ _ ptA (by decide) (by decide); have r0 : ws.cell? ⟨gt, 0, none⟩ = some (.int .i64 100) := cell_of_row _ _ 0 _ _ _ rt; have r1 : ws.cell? ⟨gt, 1, none⟩ = some (.slice ka m kc) := cell_of_row _ _ 1 _ _ _ rt; have r2 : ws.cell? ⟨gt, 2, none⟩ = some (.slice sa sl sc) := cell_of_row _ _ 2 _ _ _ rt; have r3 : ws.cell? ⟨gt, 3, none⟩ = some (.slice none 0 0) := cell_of_row _ _ 3 _ _ _ rt; have ry0 : ws.cell? ⟨bl, ol + j * 3 + 1, none⟩ = some (.slice xa xl xc) := (bx.cell (p := ⟨bl, ol + j * 3 + 1, none⟩) (by first | assumption | omega)).trans yA0; have HTW := HT.pre bAA; have HST := hst.pre bAA; clear hst; have bw : Below w.heap.size w ws := (bt.trans (bAA.mono bt.size)).trans bx; have gz := HT.recd wr.heap.size _ _ _ zrowA (by decide) (by decide); have v0 : ws.cell? ⟨wr.heap.size, 0, none⟩ = some (.int .i64 0) := cell_of_row _ _ 0 _ _ _ gz; have g0 := frozen_of_row ws wr.heap.size 0 _ _ gz; have v1 : ws.cell? ⟨wr.heap.size, 1, none⟩ = some (.slice none 0 0) := cell_of_row _ _ 1 _ _ _ gz; have g1 := frozen_of_row ws wr.heap.size 1 _ _ gz; have v2 : ws.cell? ⟨wr.heap.size, 2, none⟩ = some (.slice none 0 0) := cell_of_row _ _ 2 _ _ _ gz; have g2 := frozen_of_row ws wr.heap.size 2 _ _ gz; have v3 : ws.cell? ⟨wr.heap.size, 3, none⟩ = some (.slice none 0 0) := cell_of_row _ _ 3 _ _ _ gz; have g3 := frozen_of_row ws wr.heap.size 3 _ _ gz))
        all_goals
          go_wp2_with fail
          go_meet
          have al := (Below.refl ws.heap.size ws).alloc (Nat.le_refl _) (.cells #[.int .i64 100, .slice ka' n' kc', .slice sa' sl' sc', .slice none 0 0] 31)
          have hgw := bt.size
          first
          | exact ⟨ws.heap.size, ka', n', kc', sa', sl', sc', KS', s', rs', p, F, E, rfl, rfl, rfl, HTW.size, heap_alloc_new _ _, Hx.mono al, Ho.mono al, bw.trans (al.mono (Nat.le_trans hgw HTW.size)), HTW.next_below al, HO.out, HST.next_below al⟩
          | exact ⟨wr.heap.size, ka', n', kc', sa', sl', sc', KS', s', rs', p, F, E, rfl, rfl, rfl, Nat.le_refl _, four_rowU _ _ _ _ _ _ _ _ _ _ _ gz, Hx.offrec gz (noU8_rec gz fun v hv m => by simp at hv; rcases hv with rfl | rfl | rfl | rfl <;> simp) (by decide) (by decide) (four_size _ _ _ _ _ _) (fun b hb => four_other _ _ _ _ _ _ _ hb), Ho.offrec gz (noU8_rec gz fun v hv m => by simp at hv; rcases hv with rfl | rfl | rfl | rfl <;> simp) (by decide) (by decide) (four_size _ _ _ _ _ _) (fun b hb => four_other _ _ _ _ _ _ _ hb), four_below bw hgw _ _ _ _, HTW.store (Nat.le_refl _) gz (noU8_rec gz fun v hv m => by simp at hv; rcases hv with rfl | rfl | rfl | rfl <;> simp) (by decide) (by decide) (four_size _ _ _ _ _ _) (fun b hb => four_other _ _ _ _ _ _ _ hb), HO.out, HST.next fun h => four_below h (Nat.le_refl _) _ _ _ _⟩
      case rest =>
        obtain ⟨gx, kz, mz, kcz, sz, slz, scz, KZ, sZ, rsZ, p, F, E, rfl, rfl, rfl, hgx, px, Mx, Mo, bx, HT, hout, hst⟩ := hcut
        have gtl : gt < wr.heap.size := (Array.getElem?_eq_some_iff.1 pt).1
        have hxt : gx ≠ gt := by omega
        have pt2 := HT.recd gt _ _ _ pt (by decide) (by decide)
        obtain ⟨rfl, rfl, rfl, hp, hpk, _⟩ := hout.room (by omega)
        have hnd2 := insK_nodup (key := xk) hnd
        have hln2 : (insK KS xk).length ≤ j + 1 := by rw [insK_len]; have := Bool.toNat_le (!decide (xk ∈ KS)); omega
        obtain ⟨K2, hK2⟩ : ∃ K, insK KS xk = K := ⟨_, rfl⟩
        rw [hK2] at Mx hnd2 hln2
        have HND := Lib.hid hnd2
        replace bt := bx
        clear pt Mt Mo y0 hst HT hp hpk hK2 hnd2
        go_wp2_with (first | (refine wpList_load_row rfl 31 _ rfl gx rfl 31 _ _ _ px Try.underlying31 rfl (by kernel_rfl) ?_) | (refine store_rec rfl 31 (.tmp 8) (.tmp 61) rfl gt #[.int .i64 100, .slice kz mz kcz, .slice sz slz scz, .slice none 0 0] rfl rfl 31 _ pt2 (by kernel_rfl) rfl (by simp [Value.oneCell']) ?_; intro w6 g6 z6 o6 b6))
        exact ⟨⟨j + 1, mz, kz, kcz, sz, slz, scz, _, sZ, rsZ, by omega, by simp, HND.out, hln2, g6, Mx.offrec pt2 (noU8_rec pt2 fun v hv m => by simp at hv; rcases hv with rfl | rfl | rfl | rfl <;> simp) (by decide) (by decide) z6 (fun b hb => o6 b hb), bt.trans (b6.mono hB2)⟩, by simp [intOf]; omega⟩
    · have f3 : decide (j < n) = false := by simpa using hjn
      obtain rfl : n = j := by omega
      have hm20 := Mt.rd.small
      have hml := Mt.rd.len
      have hm40 : m ≤ 30 := by omega
      have HML := Lib.hid hml
      have HKJ := Lib.hid hkj
      have HND := Lib.hid hnd
      obtain ⟨Wa, hWa⟩ : ∃ W, decide (y ∈ KS) = W := ⟨_, rfl⟩
      have HWA := Lib.hid hWa
      clear f3 hml hkj hWa hnd
      go_wp2_with (first | (refine wpList_load_row rfl 31 _ rfl gt rfl 31 #[.int .i64 100, .slice ka m kc, .slice sa sl sc, .slice none 0 0] (0, 0) _ pt Try.underlying31 rfl (by kernel_rfl) ?_) | fail)
      refine (memberF_any _ 100 ka m kc sa sl sc (.slice none 0 0) KS s rs Mt.rd ya yl yc y (hy.mono bt)).mono ?_
      rintro e w2 ⟨rfl, b1⟩
      replace pt := (b1.block gt (Array.getElem?_eq_some_iff.1 pt).1).trans pt
      replace Mt := Mt.mono b1
      replace bt := below_then bt b1
      clear b1
      rw [HWA.out]
      go_wp2_with (first | (refine wpList_load_row rfl 31 _ rfl gt rfl 31 #[.int .i64 100, .slice ka m kc, .slice sa sl sc, .slice none 0 0] (0, 0) _ pt Try.underlying31 rfl (by kernel_rfl) ?_) | fail)
      refine (manyF_any _ 100 ka m kc sa sl sc (.slice none 0 0) hm20).mono ?_
      rintro e w3 ⟨rfl, b1⟩
      replace pt := (b1.block gt (Array.getElem?_eq_some_iff.1 pt).1).trans pt
      replace Mt := Mt.mono b1
      replace bt := below_then bt b1
      clear b1
      go_wp2_with (first | (refine wpList_load_row rfl 31 _ rfl gt rfl 31 #[.int .i64 100, .slice ka m kc, .slice sa sl sc, .slice none 0 0] (0, 0) _ pt Try.underlying31 rfl (by kernel_rfl) ?_) | fail)
      refine (insertF_all _ 100 (by decide) (by decide) w.heap.size ka m kc sa sl sc none 0 0 KS s rs Mt bt.size ya yl yc y (hy.mono bt) (by omega) HND.out).mono ?_
      rintro e w4 ⟨ka_x, n_x, kc_x, sa_x, sl_x, sc_x, ks_x, s_x, rs_x, p_x, F_x, E_x, rfl, Mx, Mo, bx, HT, hout, hst⟩
      replace pt := HT.recd gt _ _ _ pt (by decide) (by decide)
      obtain ⟨hFx, rfl, hkx, hpx, hpkx, hfx⟩ := hout.room (by have := HKJ.out; omega)
      replace Mt := Mo
      replace bt := bt.trans bx
      have hFy : F_x = !Wa := by rw [hFx, HWA.out]
      clear hFx
      have HFx := Lib.hid hFy
      clear hFy
      have HNX := Lib.hid (show ks_x.Nodup by rw [hkx]; exact insK_nodup HND.out)
      have Hkx := Lib.hid hkx
      have Hpx := Lib.hid hpx
      have Hpkx := Lib.hid hpkx
      have Hfx := Lib.hid hfx
      clear hkx hpx hpkx hfx Mo bx HT hout hst
      have hx20 := Mx.rd.small
      have A := (Below.refl w4.heap.size w4).alloc (Nat.le_refl _) (.cells #[.int .i64 100, .slice ka_x n_x kc_x, .slice sa_x sl_x sc_x, .slice none 0 0] 31)
      have px : (w4.alloc (.cells #[.int .i64 100, .slice ka_x n_x kc_x, .slice sa_x sl_x sc_x, .slice none 0 0] 31)).heap[w4.heap.size]? = some (.cells #[.int .i64 100, .slice ka_x n_x kc_x, .slice sa_x sl_x sc_x, .slice none 0 0] 31 (0, 0)) := heap_alloc_new _ _
      replace pt := (A.block gt (Array.getElem?_eq_some_iff.1 pt).1).trans pt
      replace Mt := Mt.mono A
      replace Mx := Mx.mono A
      replace bt := below_then bt A
      go_upto_region 15 with (first | (refine wpList_load_row rfl 31 _ rfl gt rfl 31 #[.int .i64 100, .slice ka m kc, .slice sa sl sc, .slice none 0 0] (0, 0) _ pt Try.underlying31 rfl (by kernel_rfl) ?_) | fail)
      obtain ⟨v5, hv⟩ : ∃ v, w4.alloc (.cells #[.int .i64 100, .slice ka_x n_x kc_x, .slice sa_x sl_x sc_x, .slice none 0 0] 31) = v := ⟨_, rfl⟩
      obtain ⟨gx, hg⟩ : ∃ g, w4.heap.size = g := ⟨_, rfl⟩
      rw [hv] at pt px Mt Mx bt ⊢
      rw [hg] at px ⊢
      clear hv hg A
      go_upto_region 16 with fail
      obtain ⟨q, hq, hq2⟩ : ∃ q : Nat, ((f : Nat) : Int) % 2 = (q : Int) ∧ q < 2 := ⟨f % 2, by omega, by omega⟩
      rw [hq]
      clear hq
      go_wp2_with (first | (refine wpList_load_row rfl 31 _ rfl gx rfl 31 #[.int .i64 100, .slice ka_x n_x kc_x, .slice sa_x sl_x sc_x, .slice none 0 0] (0, 0) _ px Try.underlying31 rfl (by kernel_rfl) ?_) | fail)
      refine (setF_ok _ 100 ka_x n_x kc_x sa_x sl_x sc_x none 0 0 [] (.none_nil _) ks_x s_x rs_x Mx.rd ya yl yc y (hy.mono bt) q hq2 HNX.out p_x Hpx.out Hpkx.out hx20 (by decide)).mono ?_
      rintro e w6 ⟨⟨a', l', c', L', rfl, hL, hM⟩, b1⟩
      replace pt := (b1.block gt (Array.getElem?_eq_some_iff.1 pt).1).trans pt
      replace px := (b1.block gx (Array.getElem?_eq_some_iff.1 px).1).trans px
      replace Mt := Mt.mono b1
      replace Mx := Mx.mono b1
      replace bt := below_then bt b1
      clear b1
      obtain ⟨hm1, hm2⟩ := hM.nil hq2
      have HM1 := Lib.hid hm1
      have HM2 := Lib.hid hm2
      clear hM hm1 hm2
      have A := (Below.refl w6.heap.size w6).alloc (Nat.le_refl _) (.cells #[.int .i64 100, .slice ka_x n_x kc_x, .slice sa_x sl_x sc_x, .slice a' l' c'] 31)
      have py : (w6.alloc (.cells #[.int .i64 100, .slice ka_x n_x kc_x, .slice sa_x sl_x sc_x, .slice a' l' c'] 31)).heap[w6.heap.size]? = some (.cells #[.int .i64 100, .slice ka_x n_x kc_x, .slice sa_x sl_x sc_x, .slice a' l' c'] 31 (0, 0)) := heap_alloc_new _ _
      replace pt := (A.block gt (Array.getElem?_eq_some_iff.1 pt).1).trans pt
      replace px := (A.block gx (Array.getElem?_eq_some_iff.1 px).1).trans px
      replace Mt := Mt.mono A
      replace Mx := Mx.mono A
      replace hL := hL.mono A
      replace bt := below_then bt A
      go_upto_region 17 with (first | (refine wpList_load_row rfl 31 _ rfl gt rfl 31 #[.int .i64 100, .slice ka m kc, .slice sa sl sc, .slice none 0 0] (0, 0) _ pt Try.underlying31 rfl (by kernel_rfl) ?_) | (refine wpList_load_row rfl 31 _ rfl gx rfl 31 #[.int .i64 100, .slice ka_x n_x kc_x, .slice sa_x sl_x sc_x, .slice none 0 0] (0, 0) _ px Try.underlying31 rfl (by kernel_rfl) ?_) | fail)
      obtain ⟨v7, hv⟩ : ∃ v, w6.alloc (.cells #[.int .i64 100, .slice ka_x n_x kc_x, .slice sa_x sl_x sc_x, .slice a' l' c'] 31) = v := ⟨_, rfl⟩
      obtain ⟨gy, hg⟩ : ∃ g, w6.heap.size = g := ⟨_, rfl⟩
      rw [hv] at pt px py Mt Mx hL bt ⊢
      rw [hg] at py ⊢
      clear hv hg A
      go_wp2_with (first | (refine wpList_load_row rfl 31 _ rfl gx rfl 31 #[.int .i64 100, .slice ka_x n_x kc_x, .slice sa_x sl_x sc_x, .slice none 0 0] (0, 0) _ px Try.underlying31 rfl (by kernel_rfl) ?_) | fail)
      refine (getF_ok _ 100 ka_x n_x kc_x sa_x sl_x sc_x none 0 0 [] (.none_nil _) ks_x s_x rs_x Mx.rd ya yl yc y (hy.mono bt) q hq2 HNX.out p_x Hpx.out Hpkx.out hx20).mono ?_
      rw [hasB_nil]
      rintro e w8 ⟨rfl, b1⟩
      replace pt := (b1.block gt (Array.getElem?_eq_some_iff.1 pt).1).trans pt
      replace px := (b1.block gx (Array.getElem?_eq_some_iff.1 px).1).trans px
      replace py := (b1.block gy (Array.getElem?_eq_some_iff.1 py).1).trans py
      replace Mt := Mt.mono b1
      replace Mx := Mx.mono b1
      replace hL := hL.mono b1
      replace bt := below_then bt b1
      clear b1
      go_wp2_with (first | (refine wpList_load_row rfl 31 _ rfl gy rfl 31 #[.int .i64 100, .slice ka_x n_x kc_x, .slice sa_x sl_x sc_x, .slice a' l' c'] (0, 0) _ py Try.underlying31 rfl (by kernel_rfl) ?_) | fail)
      refine (getF_ok _ 100 ka_x n_x kc_x sa_x sl_x sc_x a' l' c' L' hL ks_x s_x rs_x Mx.rd ya yl yc y (hy.mono bt) q hq2 HNX.out p_x Hpx.out Hpkx.out hx20).mono ?_
      rw [HM1.out]
      rintro e w9 ⟨rfl, b1⟩
      replace pt := (b1.block gt (Array.getElem?_eq_some_iff.1 pt).1).trans pt
      replace px := (b1.block gx (Array.getElem?_eq_some_iff.1 px).1).trans px
      replace py := (b1.block gy (Array.getElem?_eq_some_iff.1 py).1).trans py
      replace Mt := Mt.mono b1
      replace Mx := Mx.mono b1
      replace hL := hL.mono b1
      replace bt := below_then bt b1
      clear b1
      have h1q : (1 : Int) - (q : Int) = ((1 - q : Nat) : Int) := by omega
      have HQ := Lib.hid h1q
      clear h1q
      go_wp2_with (first | (refine wpList_load_row rfl 31 _ rfl gy rfl 31 #[.int .i64 100, .slice ka_x n_x kc_x, .slice sa_x sl_x sc_x, .slice a' l' c'] (0, 0) _ py Try.underlying31 rfl (by kernel_rfl) ?_) | fail)
      rw [HQ.out]
      refine (getF_ok _ 100 ka_x n_x kc_x sa_x sl_x sc_x a' l' c' L' hL ks_x s_x rs_x Mx.rd ya yl yc y (hy.mono bt) (1 - q) (by omega) HNX.out p_x Hpx.out Hpkx.out hx20).mono ?_
      rw [HM2.out]
      rintro e w10 ⟨rfl, b1⟩
      replace pt := (b1.block gt (Array.getElem?_eq_some_iff.1 pt).1).trans pt
      replace px := (b1.block gx (Array.getElem?_eq_some_iff.1 px).1).trans px
      replace py := (b1.block gy (Array.getElem?_eq_some_iff.1 py).1).trans py
      replace Mt := Mt.mono b1
      replace Mx := Mx.mono b1
      replace hL := hL.mono b1
      replace bt := below_then bt b1
      clear b1
      have qt0 := cell_of_row _ _ 0 _ _ _ pt
      have qt1 := cell_of_row _ _ 1 _ _ _ pt
      have qt2 := cell_of_row _ _ 2 _ _ _ pt
      have qt3 := cell_of_row _ _ 3 _ _ _ pt
      simp only [List.getElem?_toArray, List.getElem?_cons_zero, List.getElem?_cons_succ] at qt0 qt1 qt2 qt3
      have hFF := HFx.out
      subst hFF
      go_wp2_with fail
      refine (memberF_any _ 100 ka m kc sa sl sc (.slice none 0 0) KS s rs Mt.rd ya yl yc y (hy.mono bt)).mono ?_
      rw [HWA.out]
      rintro e w11 ⟨rfl, b1⟩
      replace pt := (b1.block gt (Array.getElem?_eq_some_iff.1 pt).1).trans pt
      replace px := (b1.block gx (Array.getElem?_eq_some_iff.1 px).1).trans px
      replace py := (b1.block gy (Array.getElem?_eq_some_iff.1 py).1).trans py
      replace Mt := Mt.mono b1
      replace Mx := Mx.mono b1
      replace hL := hL.mono b1
      replace bt := below_then bt b1
      clear b1 qt0 qt1 qt2 qt3
      have qt0 := cell_of_row _ _ 0 _ _ _ pt
      have qt1 := cell_of_row _ _ 1 _ _ _ pt
      have qt2 := cell_of_row _ _ 2 _ _ _ pt
      have qt3 := cell_of_row _ _ 3 _ _ _ pt
      simp only [List.getElem?_toArray, List.getElem?_cons_zero, List.getElem?_cons_succ] at qt0 qt1 qt2 qt3
      cases Wa with
      | true =>
        go_wp2_with fail
        refine (manyF_any _ 100 ka m kc sa sl sc (.slice none 0 0) hm20).mono ?_
        rintro e wz ⟨rfl, b1⟩
        replace bt := below_then bt b1
        go_wp2_with fail
        go_ret
        exact ⟨rfl, bt⟩
      | false =>
        go_wp2_with fail
        refine (manyF_any _ 100 ka m kc sa sl sc (.slice none 0 0) hm20).mono ?_
        rintro e wz ⟨rfl, b1⟩
        replace bt := below_then bt b1
        go_wp2_with fail
        go_ret
        exact ⟨rfl, bt⟩
end Go.Proofs.Ytgfiampcjgdojaa
