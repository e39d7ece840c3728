/- PairsFull returns true (by gen05f.py). -/
import Derived.Test.YtkdhdbfdggihiaaPairM
namespace Go.Proofs.Ytkdhdbfdggihiaa
open Go.RowKit Go.Maps
set_option linter.unusedVariables false
set_option linter.unusedSimpArgs false

set_option maxRecDepth 100000 in
set_option maxHeartbeats 8000000 in
theorem pairsfull_any (w : World) (c : Nat) (hc : c < 256) (al : Option Addr) (n cl : Nat) (f : Nat → Nat × Nat) (hA : PrsAt w al n f) :
    Calls Try.prog 6 #[.int .u8 (c : Nat), .slice al n cl] w fun e w' => e = .returned (.bool true) ∧ Below w.heap.size w w' := by
  have nb := hA.small
  have hmm := @run_makeMap Try.prog
  obtain ⟨N, hN⟩ : ∃ N, c % 21 = N := ⟨_, rfl⟩
  have hN20 : N ≤ 20 := by omega
  have hrem : ((c : Nat) : Int).tmod 21 = (N : Nat) := by
    rw [Int.tmod_eq_emod_of_nonneg (by omega)]
    omega
  have hrem2 : ((c : Nat) : Int) % 21 = (N : Nat) := by omega
  clear hN
  go_enter Try.func6, Try.ntmps6
  go_wp2_with fail
  refine (shown_any _).mono ?_
  rintro e w0 ⟨rfl, bt⟩
  by_cases hn40 : 40 < n
  · have f1 : decide ((40 : Int) < (n : Int)) = true := by simp; omega
    go_wp2_with fail
    go_ret
    exact ⟨rfl, bt⟩
  have f1 : decide ((40 : Int) < (n : Int)) = false := by simp; omega
  go_wp2_with fail
  refine (newP_ok _ (N : Nat) (by omega)).mono ?_
  rintro e w1 ⟨rfl, b1⟩
  replace bt := below_then bt b1
  clear b1
  have hB := bt.size
  have A := (Below.refl w1.heap.size w1).alloc (Nat.le_refl _) (.cells #[.int .i64 (N : Nat), .slice none 0 0, .slice none 0 0] 32)
  have pt : (w1.alloc (.cells #[.int .i64 (N : Nat), .slice none 0 0, .slice none 0 0] 32)).heap[w1.heap.size]? = some (.cells #[.int .i64 (N : Nat), .slice none 0 0, .slice none 0 0] 32 (0, 0)) := heap_alloc_new _ _
  replace bt := below_then bt A
  go_upto_region 6 with (first | fail)
  obtain ⟨v1, hv⟩ : ∃ v, w1.alloc (.cells #[.int .i64 (N : Nat), .slice none 0 0, .slice none 0 0] 32) = v := ⟨_, rfl⟩
  obtain ⟨gt, hg⟩ : ∃ g, w1.heap.size = g := ⟨_, rfl⟩
  rw [hv] at pt bt ⊢
  rw [hg] at pt ⊢
  rw [hg] at hB
  clear hv hg A hrem hrem2
  have hne : gt ≠ v1.heap.size := Nat.ne_of_lt (Array.getElem?_eq_some_iff.1 pt).1
  have A := (Below.refl v1.heap.size v1).alloc (Nat.le_refl _) (.map #[] 0)
  have hM := AtMapP.made v1
  have hBm := bt.size
  replace pt := (A.block gt (Array.getElem?_eq_some_iff.1 pt).1).trans pt
  replace bt := below_then bt A
  have Mt := TabM.empty (v1.alloc (.map #[] 0)) w.heap.size
  go_upto_region 9 with fail
  obtain ⟨v2, hv⟩ : ∃ v, v1.alloc (.map #[] 0) = v := ⟨_, rfl⟩
  obtain ⟨gm, hg⟩ : ∃ g, v1.heap.size = g := ⟨_, rfl⟩
  rw [hv] at pt bt Mt hM ⊢
  rw [hg] at hne hM hBm ⊢
  clear hv hg A
  go_wp2_with fail
  go_loopw [10] (fun i w' => ∃ (j m : Nat) (ka : Option Addr) (kc : Nat) (sa : Option Addr) (sl sc : Nat) (KS : List (List Nat)) (s : List Int) (rs : List (Nat × Nat)), j ≤ n ∧ i = .int .i64 (j : Nat) ∧ KS.Nodup ∧ KS.length ≤ j ∧ w'.heap[gt]? = some (.cells #[.int .i64 (N : Nat), .slice ka m kc, .slice sa sl sc] 32 (0, 0)) ∧ TabM w' w.heap.size ka m kc sa sl sc KS s rs ∧ AtMapP w' gm j KS ∧ Below w.heap.size w w') (fun i _ => n - (intOf i).toNat)
  case atStart => exact ⟨0, 0, none, 0, none, 0, 0, [], [], [], Nat.zero_le _, rfl, List.nodup_nil, Nat.le_refl _, pt, Mt, hM, bt⟩
  case round =>
    clear pt Mt hM bt
    obtain ⟨j, m, ka, kc, sa, sl, sc, KS, s, rs, hj, rfl, hnd, hkj, pt, Mt, hM, bt⟩ := hrel
    by_cases hjn : j < n
    · have f3 : decide (j < n) = true := by simpa using hjn
      obtain ⟨bl, ol, rfl, hbl, hact⟩ := hA.at_.resolve_left (by omega)
      have hlt := hA.lt j
      have hx := hact j hjn
      obtain ⟨⟨x, y⟩, hu⟩ : ∃ u, f j = u := ⟨_, rfl⟩
      rw [hu] at hx hlt
      simp only [] at hx hlt
      obtain ⟨hlx, hly⟩ := hlt
      have hblr : bl < wr.heap.size := Nat.lt_of_lt_of_le hbl bt.size
      have y0 : wr.cell? ⟨bl, ol + j * 2, none⟩ = some (.int .u32 (x : Nat)) := (bt.cell (p := ⟨bl, ol + j * 2, none⟩) hbl).trans hx.1
      have y1 : wr.cell? ⟨bl, ol + j * 2 + 1, none⟩ = some (.int .u32 (y : Nat)) := (bt.cell (p := ⟨bl, ol + j * 2 + 1, none⟩) hbl).trans hx.2
      obtain ⟨cp, hlook, hcp⟩ := hM.look hlx hly
      obtain ⟨W, hW⟩ : ∃ W, decide (pk x y ∈ KS) = W := ⟨_, rfl⟩
      rw [hW] at hlook
      obtain ⟨es, cl2, mp⟩ := hM.map
      have hml := Mt.rd.len
      have HW := Lib.hid hW
      have HCP := Lib.hid hcp
      have HX := Lib.hid hx
      have HML := Lib.hid hml
      clear hact hu hx hW hcp hml
      go_upto_region 13 with fail
      go_cut [13, 14, 15, 16] from 36 to 156 (fun v13 v14 v15 v16 w' => ∃ (gx : Nat) (ka' : Option Addr) (n' kc' : Nat) (sa' : Option Addr) (sl' sc' : Nat) (KS' : List (List Nat)) (s' : List Int) (rs' : List (Nat × Nat)) (p : Nat) (F : Bool) (E : Int), v13 = .pointer (some ⟨gx, 0, none⟩) ∧ v14 = .int .i64 (p : Nat) ∧ v15 = .bool F ∧ v16 = .int .i64 E ∧ wr.heap.size ≤ gx ∧ w'.heap[gx]? = some (.cells #[.int .i64 (N : Nat), .slice ka' n' kc', .slice sa' sl' sc'] 32 (0, 0)) ∧ TabM w' w.heap.size ka' n' kc' sa' sl' sc' KS' s' rs' ∧ TabM w' w.heap.size ka m kc sa sl sc KS s rs ∧ Below w.heap.size w w' ∧ KeptT wr w' w.heap.size ka m sa ka' n' sa' ∧ OutP (N : Nat) KS (pk x y) p F E KS' ∧ StayT wr w' F (ka' = ka ∧ n' = m ∧ kc' = kc ∧ sa' = sa ∧ sl' = sl ∧ sc' = sc))
      case first =>
        have bD : Below wr.heap.size wr wr.drew := (Below.refl _ _).drew
        have bAA : Below wr.heap.size wr (wr.alloc (.cells #[.int .i64 0, .slice none 0 0, .slice none 0 0] 32)).drew := ((Below.refl _ _).alloc (Nat.le_refl _) _).drew
        have ptD : wr.drew.heap[gt]? = some (.cells #[.int .i64 (N : Nat), .slice ka m kc, .slice sa sl sc] 32 (0, 0)) := pt
        have gtl : gt < wr.heap.size := (Array.getElem?_eq_some_iff.1 pt).1
        have ptA := (bAA.block gt gtl).trans pt
        have MD := Mt.mono bD
        have MA := Mt.mono bAA
        have hBD := Nat.le_trans bt.size bD.size
        have hBA := Nat.le_trans bt.size bAA.size
        have hnt : gt ≠ wr.heap.size := Nat.ne_of_lt gtl
        have hnb : bl ≠ wr.heap.size := Nat.ne_of_lt hblr
        have gD0 : wr.drew.cell? ⟨gt, 0, none⟩ = some (.int .i64 (N : Nat)) := cell_of_row _ _ 0 _ _ _ ptD
        have gA0 : (wr.alloc (.cells #[.int .i64 0, .slice none 0 0, .slice none 0 0] 32)).drew.cell? ⟨gt, 0, none⟩ = some (.int .i64 (N : Nat)) := cell_of_row _ _ 0 _ _ _ ptA
        have gD1 : wr.drew.cell? ⟨gt, 1, none⟩ = some (.slice ka m kc) := cell_of_row _ _ 1 _ _ _ ptD
        have gA1 : (wr.alloc (.cells #[.int .i64 0, .slice none 0 0, .slice none 0 0] 32)).drew.cell? ⟨gt, 1, none⟩ = some (.slice ka m kc) := cell_of_row _ _ 1 _ _ _ ptA
        have gD2 : wr.drew.cell? ⟨gt, 2, none⟩ = some (.slice sa sl sc) := cell_of_row _ _ 2 _ _ _ ptD
        have gA2 : (wr.alloc (.cells #[.int .i64 0, .slice none 0 0, .slice none 0 0] 32)).drew.cell? ⟨gt, 2, none⟩ = some (.slice sa sl sc) := cell_of_row _ _ 2 _ _ _ ptA
        have yD0 : wr.drew.cell? ⟨bl, ol + j * 2, none⟩ = some (.int .u32 (x : Nat)) := y0
        have yA0 : (wr.alloc (.cells #[.int .i64 0, .slice none 0 0, .slice none 0 0] 32)).drew.cell? ⟨bl, ol + j * 2, none⟩ = some (.int .u32 (x : Nat)) := (bAA.cell (p := ⟨bl, ol + j * 2, none⟩) hblr).trans y0
        have yD1 : wr.drew.cell? ⟨bl, ol + j * 2 + 1, none⟩ = some (.int .u32 (y : Nat)) := y1
        have yA1 : (wr.alloc (.cells #[.int .i64 0, .slice none 0 0, .slice none 0 0] 32)).drew.cell? ⟨bl, ol + j * 2 + 1, none⟩ = some (.int .u32 (y : Nat)) := (bAA.cell (p := ⟨bl, ol + j * 2 + 1, none⟩) hblr).trans y1
        have zrowA : (wr.alloc (.cells #[.int .i64 0, .slice none 0 0, .slice none 0 0] 32)).drew.heap[wr.heap.size]? = some (.cells #[.int .i64 0, .slice none 0 0, .slice none 0 0] 32 (0, 0)) := heap_alloc_new wr _
        have hI1 := insertP_all wr.drew (N : Nat) (by omega) (by omega) w.heap.size ka m kc sa sl sc KS s rs MD hBD x y hlx hly hnd
        have hI2 := insertP_all (wr.alloc (.cells #[.int .i64 0, .slice none 0 0, .slice none 0 0] 32)).drew (N : Nat) (by omega) (by omega) w.heap.size ka m kc sa sl sc KS s rs MA hBA x y hlx hly hnd
        clear MD MA pt Mt
        go_region_held3 (fun w' => w'.cell? ⟨gt, 0, none⟩ = some (.int .i64 (N : Nat)) ∧ w'.cell? ⟨gt, 1, none⟩ = some (.slice ka m kc) ∧ w'.cell? ⟨gt, 2, none⟩ = some (.slice sa sl sc) ∧ w'.cell? ⟨bl, ol + j * 2, none⟩ = some (.int .u32 (x : Nat)) ∧ w'.cell? ⟨bl, ol + j * 2 + 1, none⟩ = some (.int .u32 (y : Nat)))
          (first | (refine ⟨?_, ?_, ?_, ?_, ?_⟩ <;> with_reducible assumption) | (refine ⟨?_, ?_, ?_, ?_, ?_⟩; with_reducible exact cellAlloc _ _ r0; with_reducible exact cellAlloc _ _ r1; with_reducible exact cellAlloc _ _ r2; with_reducible exact cellAlloc _ _ ry0; with_reducible exact cellAlloc _ _ ry1) | (refine ⟨?_, ?_, ?_, ?_, ?_⟩; with_reducible exact three_cellU _ _ _ _ _ _ _ hnt r0; with_reducible exact three_cellU _ _ _ _ _ _ _ hnt r1; with_reducible exact three_cellU _ _ _ _ _ _ _ hnt r2; with_reducible exact three_cellU _ _ _ _ _ _ _ hnb ry0; with_reducible exact three_cellU _ _ _ _ _ _ _ hnb ry1))
          (first | (go_at_call 12; (with_reducible refine hI1.mono ?_); rintro e ws ⟨ka', n', kc', sa', sl', sc', KS', s', rs', p, F, E, rfl, Hx, Ho, bx, HT, hout, hst⟩; have HO := Lib.hid hout; clear hout; have rt := HT.recd gt _ _ _ ptD (by decide) (by decide); have r0 : ws.cell? ⟨gt, 0, none⟩ = some (.int .i64 (N : Nat)) := cell_of_row _ _ 0 _ _ _ rt; have r1 : ws.cell? ⟨gt, 1, none⟩ = some (.slice ka m kc) := cell_of_row _ _ 1 _ _ _ rt; have r2 : ws.cell? ⟨gt, 2, none⟩ = some (.slice sa sl sc) := cell_of_row _ _ 2 _ _ _ rt; have ry0 : ws.cell? ⟨bl, ol + j * 2, none⟩ = some (.int .u32 (x : Nat)) := (bx.cell (p := ⟨bl, ol + j * 2, none⟩) (by first | assumption | omega)).trans yD0; have ry1 : ws.cell? ⟨bl, ol + j * 2 + 1, none⟩ = some (.int .u32 (y : Nat)) := (bx.cell (p := ⟨bl, ol + j * 2 + 1, none⟩) (by first | assumption | omega)).trans yD1; have HTW := HT.pre bD; have HST := hst.pre bD; clear hst; have bw : Below w.heap.size w ws := (bt.trans (bD.mono bt.size)).trans bx) | (go_at_call 12; (with_reducible refine hI2.mono ?_); rintro e ws ⟨ka', n', kc', sa', sl', sc', KS', s', rs', p, F, E, rfl, Hx, Ho, bx, HT, hout, hst⟩; have HO := Lib.hid hout; clear hout; have rt := HT.recd gt _ _ _ ptA (by decide) (by decide); have r0 : ws.cell? ⟨gt, 0, none⟩ = some (.int .i64 (N : Nat)) := cell_of_row _ _ 0 _ _ _ rt; have r1 : ws.cell? ⟨gt, 1, none⟩ = some (.slice ka m kc) := cell_of_row _ _ 1 _ _ _ rt; have r2 : ws.cell? ⟨gt, 2, none⟩ = some (.slice sa sl sc) := cell_of_row _ _ 2 _ _ _ rt; have ry0 : ws.cell? ⟨bl, ol + j * 2, none⟩ = some (.int .u32 (x : Nat)) := (bx.cell (p := ⟨bl, ol + j * 2, none⟩) (by first | assumption | omega)).trans yA0; have ry1 : ws.cell? ⟨bl, ol + j * 2 + 1, none⟩ = some (.int .u32 (y : Nat)) := (bx.cell (p := ⟨bl, ol + j * 2 + 1, none⟩) (by first | assumption | omega)).trans yA1; have HTW := HT.pre bAA; have HST := hst.pre bAA; clear hst; have bw : Below w.heap.size w ws := (bt.trans (bAA.mono bt.size)).trans bx; have gz := HT.recd wr.heap.size _ _ _ zrowA (by decide) (by decide); have v0 : ws.cell? ⟨wr.heap.size, 0, none⟩ = some (.int .i64 0) := cell_of_row _ _ 0 _ _ _ gz; have g0 := frozen_of_row ws wr.heap.size 0 _ _ gz; have v1 : ws.cell? ⟨wr.heap.size, 1, none⟩ = some (.slice none 0 0) := cell_of_row _ _ 1 _ _ _ gz; have g1 := frozen_of_row ws wr.heap.size 1 _ _ gz; have v2 : ws.cell? ⟨wr.heap.size, 2, none⟩ = some (.slice none 0 0) := cell_of_row _ _ 2 _ _ _ gz; have g2 := frozen_of_row ws wr.heap.size 2 _ _ gz))
        all_goals
          go_wp2_with fail
          go_meet
          have al := (Below.refl ws.heap.size ws).alloc (Nat.le_refl _) (.cells #[.int .i64 (N : Nat), .slice ka' n' kc', .slice sa' sl' sc'] 32)
          have hgw := bt.size
          first
          | exact ⟨ws.heap.size, ka', n', kc', sa', sl', sc', KS', s', rs', p, F, E, rfl, rfl, rfl, rfl, HTW.size, heap_alloc_new _ _, Hx.mono al, Ho.mono al, bw.trans (al.mono (Nat.le_trans hgw HTW.size)), HTW.next_below al, HO.out, HST.next_below al⟩
          | exact ⟨wr.heap.size, ka', n', kc', sa', sl', sc', KS', s', rs', p, F, E, rfl, rfl, rfl, rfl, Nat.le_refl _, three_rowU _ _ _ _ _ _ _ _ _ gz, Hx.offrec gz (noU8_rec gz fun v hv m => by simp at hv; rcases hv with rfl | rfl | rfl <;> simp) (by decide) (by decide) (three_size _ _ _ _ _) (fun b hb => three_other _ _ _ _ _ _ hb), Ho.offrec gz (noU8_rec gz fun v hv m => by simp at hv; rcases hv with rfl | rfl | rfl <;> simp) (by decide) (by decide) (three_size _ _ _ _ _) (fun b hb => three_other _ _ _ _ _ _ hb), three_below bw hgw _ _ _, HTW.store (Nat.le_refl _) gz (noU8_rec gz fun v hv m => by simp at hv; rcases hv with rfl | rfl | rfl <;> simp) (by decide) (by decide) (three_size _ _ _ _ _) (fun b hb => three_other _ _ _ _ _ _ hb), HO.out, HST.next fun h => three_below h (Nat.le_refl _) _ _ _⟩
      case rest =>
        obtain ⟨gx, kz, mz, kcz, sz, slz, scz, KZ, sZ, rsZ, p, F, E, rfl, rfl, rfl, rfl, hgx, px, Mx, Mo, bx, HT, hout, hst⟩ := hcut
        have pt2 := HT.recd gt _ _ _ pt (by decide) (by decide)
        have mp2 := HT.map gm _ _ mp
        have hM2 := hM.block mp mp2
        have y02 : wc.cell? ⟨bl, ol + j * 2, none⟩ = some (.int .u32 (x : Nat)) := (bx.cell (p := ⟨bl, ol + j * 2, none⟩) hbl).trans HX.out.1
        have y12 : wc.cell? ⟨bl, ol + j * 2 + 1, none⟩ = some (.int .u32 (y : Nat)) := (bx.cell (p := ⟨bl, ol + j * 2 + 1, none⟩) hbl).trans HX.out.2
        have hlen2 := fun ty => hM2.len ty
        rw [HML.out] at hlen2
        have hKO := keyOf_p hlx hly
        have hm40 : m ≤ 40 := by have := HML.out; omega
        have hnd1 := hout.nodup hnd
        have hzl := Mx.rd.len
        have HND := Lib.hid hnd
        have HND1 := Lib.hid hnd1
        have HKJ := Lib.hid hkj
        have HZL := Lib.hid hzl
        have HOUT := Lib.hid hout
        clear pt Mt Mo y0 y1 hst HT hM mp hlook hout hnd hnd1 hkj hzl
        rcases HOUT.out with ⟨h1, rfl, rfl, rfl, hp, hpk⟩ | ⟨h1, h2, rfl, rfl, rfl, rfl⟩ | ⟨h1, h2, rfl, rfl, rfl, rfl⟩
        · obtain rfl : W = true := by rw [← HW.out]; exact decide_eq_true h1
          obtain rfl : cp = (p : Int) := HCP.out p hp hpk
          have HIN : Hid (decide (pk x y ∈ KZ) = true) := Lib.hid HW.out
          have HH1 := Lib.hid h1
          have HHP := Lib.hid hp
          have HHK := Lib.hid hpk
          clear h1 hp hpk
          go_upto_region 20 with (first | (refine wpList_load_row rfl 32 _ rfl gx rfl 32 _ _ _ px Try.underlying32 rfl (by kernel_rfl) ?_) | (refine store_rec rfl 32 (.tmp 7) (.tmp 118) rfl gt #[.int .i64 (N : Nat), .slice kz mz kcz, .slice sz slz scz] rfl rfl 32 _ pt2 (by kernel_rfl) rfl (by simp [Value.oneCell']) ?_; intro w6 g6 z6 o6 b6))
          have Mt6 := Mx.recd pt2 (by decide) (by decide) z6 (fun b hb => o6 b hb)
          have hM6 := (hM2.same (o6 gm hne.symm)).more (Nat.le_succ j)
          have bt6 := bx.trans (b6.mono hB)
          clear Mx hM2 bx b6 z6 o6 px pt2 mp2
          have gtl := (Array.getElem?_eq_some_iff.1 g6).1
          have yL0 : ∀ z : Later w6.heap.size w6, z.w.cell? ⟨bl, ol + j * 2, none⟩ = some (.int .u32 (x : Nat)) := fun z => ((below_then bt6 z.below).cell (p := ⟨bl, ol + j * 2, none⟩) hbl).trans HX.out.1
          have yL1 : ∀ z : Later w6.heap.size w6, z.w.cell? ⟨bl, ol + j * 2 + 1, none⟩ = some (.int .u32 (y : Nat)) := fun z => ((below_then bt6 z.below).cell (p := ⟨bl, ol + j * 2 + 1, none⟩) hbl).trans HX.out.2
          have q0 : ∀ z : Later w6.heap.size w6, z.w.cell? ⟨gt, 0, none⟩ = some (.int .i64 (N : Nat)) := fun z => cell_of_row _ _ 0 _ _ _ ((z.below.block gt gtl).trans g6)
          have q1 : ∀ z : Later w6.heap.size w6, z.w.cell? ⟨gt, 1, none⟩ = some (.slice kz mz kcz) := fun z => cell_of_row _ _ 1 _ _ _ ((z.below.block gt gtl).trans g6)
          have q2 : ∀ z : Later w6.heap.size w6, z.w.cell? ⟨gt, 2, none⟩ = some (.slice sz slz scz) := fun z => cell_of_row _ _ 2 _ _ _ ((z.below.block gt gtl).trans g6)
          obtain ⟨p0, ⟨hpu, hpm⟩, hF⟩ := findP_in KZ HND1.out x y hlx hly
          rw [HIN.out] at hF
          have nF := fun z : Later w6.heap.size w6 => hF z.w (N : Nat) kz mz kcz sz slz scz sZ rsZ (Mt6.rd.mono z.below)
          have HPM := Lib.hid hpm
          clear hF hpu hpm y02 y12 hlen2
          simp only [Act.put, List.setIfInBounds_toArray, List.set_cons_zero, List.set_cons_succ]
          refine wp_region_later w6.heap.size w6 (by kernel_rfl) (by kernel_rfl) (Below.refl _ _) ?_
          repeat (go_big_quiet_step ((go_at_call 14; refine Calls.later0 (nF _))))
          refine wpQuiet_nil ?_
          intro _ hlat
          obtain ⟨z, rfl⟩ := hlat
          have y03 := yL0 z
          have y13 := yL1 z
          have r0 := q0 z
          have r1 := q1 z
          have r2 := q2 z
          have pt7 := (z.below.block gt gtl).trans g6
          have Mt7 := Mt6.mono z.below
          have hM7 := hM6.mono z.below
          have bt7 := below_then bt6 z.below
          have hlen3 := fun ty => hM7.len ty
          rw [HZL.out] at hlen3
          have hmz := Mt7.rd.small
          clear yL0 yL1 q0 q1 q2 nF gtl Mt6 hM6 bt6 g6
          obtain ⟨h5, h6⟩ := HPM.out (of_decide_eq_true HIN.out)
          obtain ⟨c3, hlook3, hc3⟩ := hM7.lookn hlx hly
          obtain rfl : c3 = (p0 : Int) := hc3 p0 h5 h6
          have HH5 := Lib.hid h5
          have HH6 := Lib.hid h6
          clear h5 h6 hc3
          go_wp2_with fail
          refine (manyP_any _ (N : Nat) kz mz kcz sz slz scz hmz).mono ?_
          rintro e w8 ⟨rfl, b8⟩
          have hlen4 := fun ty => (hM7.mono b8).len ty
          rw [HZL.out] at hlen4
          clear hlen3 y03 y13 r0 r1 r2
          go_wp2_with fail
          exact ⟨⟨j + 1, mz, kz, kcz, sz, slz, scz, _, sZ, rsZ, by omega, by simp, HND1.out, Nat.le_succ_of_le HKJ.out, (b8.block gt (Array.getElem?_eq_some_iff.1 pt7).1).trans pt7, Mt7.mono b8, hM7.mono b8, below_then bt7 b8⟩, by simp [intOf]; omega⟩
        · obtain rfl : W = false := by rw [← HW.out]; exact decide_eq_false h1
          have d1 : decide (N ≤ m) = true := by simp; have := HML.out; omega
          have HIN : Hid (decide (pk x y ∈ KZ) = false) := Lib.hid HW.out
          have HH1 := Lib.hid h1
          clear h1 h2
          go_upto_region 20 with (first | (refine wpList_load_row rfl 32 _ rfl gx rfl 32 _ _ _ px Try.underlying32 rfl (by kernel_rfl) ?_) | (refine store_rec rfl 32 (.tmp 7) (.tmp 118) rfl gt #[.int .i64 (N : Nat), .slice kz mz kcz, .slice sz slz scz] rfl rfl 32 _ pt2 (by kernel_rfl) rfl (by simp [Value.oneCell']) ?_; intro w6 g6 z6 o6 b6))
          have Mt6 := Mx.recd pt2 (by decide) (by decide) z6 (fun b hb => o6 b hb)
          have hM6 := (hM2.same (o6 gm hne.symm)).more (Nat.le_succ j)
          have bt6 := bx.trans (b6.mono hB)
          clear Mx hM2 bx b6 z6 o6 px pt2 mp2
          have gtl := (Array.getElem?_eq_some_iff.1 g6).1
          have yL0 : ∀ z : Later w6.heap.size w6, z.w.cell? ⟨bl, ol + j * 2, none⟩ = some (.int .u32 (x : Nat)) := fun z => ((below_then bt6 z.below).cell (p := ⟨bl, ol + j * 2, none⟩) hbl).trans HX.out.1
          have yL1 : ∀ z : Later w6.heap.size w6, z.w.cell? ⟨bl, ol + j * 2 + 1, none⟩ = some (.int .u32 (y : Nat)) := fun z => ((below_then bt6 z.below).cell (p := ⟨bl, ol + j * 2 + 1, none⟩) hbl).trans HX.out.2
          have q0 : ∀ z : Later w6.heap.size w6, z.w.cell? ⟨gt, 0, none⟩ = some (.int .i64 (N : Nat)) := fun z => cell_of_row _ _ 0 _ _ _ ((z.below.block gt gtl).trans g6)
          have q1 : ∀ z : Later w6.heap.size w6, z.w.cell? ⟨gt, 1, none⟩ = some (.slice kz mz kcz) := fun z => cell_of_row _ _ 1 _ _ _ ((z.below.block gt gtl).trans g6)
          have q2 : ∀ z : Later w6.heap.size w6, z.w.cell? ⟨gt, 2, none⟩ = some (.slice sz slz scz) := fun z => cell_of_row _ _ 2 _ _ _ ((z.below.block gt gtl).trans g6)
          obtain ⟨p0, ⟨hpu, hpm⟩, hF⟩ := findP_in KZ HND1.out x y hlx hly
          rw [HIN.out] at hF
          have nF := fun z : Later w6.heap.size w6 => hF z.w (N : Nat) kz mz kcz sz slz scz sZ rsZ (Mt6.rd.mono z.below)
          have HPM := Lib.hid hpm
          clear hF hpu hpm y02 y12 hlen2
          simp only [Act.put, List.setIfInBounds_toArray, List.set_cons_zero, List.set_cons_succ]
          refine wp_region_later w6.heap.size w6 (by kernel_rfl) (by kernel_rfl) (Below.refl _ _) ?_
          repeat (go_big_quiet_step ((go_at_call 14; refine Calls.later0 (nF _))))
          refine wpQuiet_nil ?_
          intro _ hlat
          obtain ⟨z, rfl⟩ := hlat
          have y03 := yL0 z
          have y13 := yL1 z
          have r0 := q0 z
          have r1 := q1 z
          have r2 := q2 z
          have pt7 := (z.below.block gt gtl).trans g6
          have Mt7 := Mt6.mono z.below
          have hM7 := hM6.mono z.below
          have bt7 := below_then bt6 z.below
          have hlen3 := fun ty => hM7.len ty
          rw [HZL.out] at hlen3
          have hmz := Mt7.rd.small
          clear yL0 yL1 q0 q1 q2 nF gtl Mt6 hM6 bt6 g6
          go_wp2_with fail
          refine (manyP_any _ (N : Nat) kz mz kcz sz slz scz hmz).mono ?_
          rintro e w8 ⟨rfl, b8⟩
          have hlen4 := fun ty => (hM7.mono b8).len ty
          rw [HZL.out] at hlen4
          clear hlen3 y03 y13 r0 r1 r2
          go_wp2_with fail
          exact ⟨⟨j + 1, mz, kz, kcz, sz, slz, scz, _, sZ, rsZ, by omega, by simp, HND1.out, Nat.le_succ_of_le HKJ.out, (b8.block gt (Array.getElem?_eq_some_iff.1 pt7).1).trans pt7, Mt7.mono b8, hM7.mono b8, below_then bt7 b8⟩, by simp [intOf]; omega⟩
        · obtain rfl : W = false := by rw [← HW.out]; exact decide_eq_false h1
          have d1 : decide (N ≤ m) = false := by simp; have := HML.out; omega
          have hins : insK KS (pk x y) = KS ++ [pk x y] := by unfold insK; rw [if_neg h1]
          have HIN : Hid (decide (pk x y ∈ KS ++ [pk x y]) = true) := Lib.hid (by simp)
          have HINS := Lib.hid hins
          have HH1 := Lib.hid h1
          obtain ⟨D, hown, hD⟩ := hM2
          have hk40 : KS.length ≤ 100 := by have := HML.out; omega
          have hkm := HML.out
          clear h1 h2 hins
          obtain ⟨Q, hQ⟩ : ∃ Q, KS.length = Q := ⟨_, rfl⟩
          rw [hQ] at hk40 hkm ⊢
          obtain rfl : m = Q := hkm.symm
          have HQ := Lib.hid hQ
          clear hQ
          go_upto_region 20 with (first | (at_mapUpdate; refine wpList_mapUpdate_own _ rfl _ _ _ 55 rfl 44 3 pairK_law Try.underlying55 _ gm j D rfl hown (by unfold maxLen; omega) _ _ (litP x y) rfl rfl hKO (.lit (.int .i64 (m : Nat))) [] (plainElem_int Try.underlying3 (WalkArith.wf_i64 (by omega))) ?_; intro w9 hown9 hg9; have ho9 : ∀ b, b < wc.heap.size → b ≠ gm → w9.heap[b]? = wc.heap[b]? := fun b hb hne => hg9.block b hb (fun he => hne (Option.some.inj he)); have pt9 := cells_off mp2 ho9 pt2; have px9 := cells_off mp2 ho9 px) | (refine wpList_load_row rfl 32 _ rfl gx rfl 32 _ _ _ px9 Try.underlying32 rfl (by kernel_rfl) ?_) | (refine store_rec rfl 32 (.tmp 7) (.tmp 118) rfl gt #[.int .i64 (N : Nat), .slice kz mz kcz, .slice sz slz scz] rfl rfl 32 _ pt9 (by kernel_rfl) rfl (by simp [Value.oneCell']) ?_; intro w6 g6 z6 o6 b6))
          have Mt6 := (Mx.offmap mp2 hg9.size ho9).recd pt9 (by decide) (by decide) z6 (fun b hb => o6 b hb)
          have hM6 : AtMapP w6 gm (j + 1) (KS ++ [pk x y]) := by
            rw [← HINS.out]
            exact (atMapP_put hown hD hlx hly HND.out (by rw [HINS.out]; simp; have := HQ.out; omega) (by rw [HINS.out, ← HQ.out, List.getD_eq_getElem?_getD, List.getElem?_append_right (Nat.le_refl _), Nat.sub_self]; rfl) hown9).same (o6 gm hne.symm)
          have bt6 := (bx.grown hg9 bx.size (fun c hc => by cases hc; exact hBm)).trans (b6.mono hB)
          clear Mx hown hown9 hg9 ho9 bx b6 z6 o6 px pt2 mp2 pt9 px9 hD
          have gtl := (Array.getElem?_eq_some_iff.1 g6).1
          have yL0 : ∀ z : Later w6.heap.size w6, z.w.cell? ⟨bl, ol + j * 2, none⟩ = some (.int .u32 (x : Nat)) := fun z => ((below_then bt6 z.below).cell (p := ⟨bl, ol + j * 2, none⟩) hbl).trans HX.out.1
          have yL1 : ∀ z : Later w6.heap.size w6, z.w.cell? ⟨bl, ol + j * 2 + 1, none⟩ = some (.int .u32 (y : Nat)) := fun z => ((below_then bt6 z.below).cell (p := ⟨bl, ol + j * 2 + 1, none⟩) hbl).trans HX.out.2
          have q0 : ∀ z : Later w6.heap.size w6, z.w.cell? ⟨gt, 0, none⟩ = some (.int .i64 (N : Nat)) := fun z => cell_of_row _ _ 0 _ _ _ ((z.below.block gt gtl).trans g6)
          have q1 : ∀ z : Later w6.heap.size w6, z.w.cell? ⟨gt, 1, none⟩ = some (.slice kz mz kcz) := fun z => cell_of_row _ _ 1 _ _ _ ((z.below.block gt gtl).trans g6)
          have q2 : ∀ z : Later w6.heap.size w6, z.w.cell? ⟨gt, 2, none⟩ = some (.slice sz slz scz) := fun z => cell_of_row _ _ 2 _ _ _ ((z.below.block gt gtl).trans g6)
          obtain ⟨p0, ⟨hpu, hpm⟩, hF⟩ := findP_in (KS ++ [pk x y]) HND1.out x y hlx hly
          rw [HIN.out] at hF
          have nF := fun z : Later w6.heap.size w6 => hF z.w (N : Nat) kz mz kcz sz slz scz sZ rsZ (Mt6.rd.mono z.below)
          have HPM := Lib.hid hpm
          clear hF hpu hpm y02 y12 hlen2
          simp only [Act.put, List.setIfInBounds_toArray, List.set_cons_zero, List.set_cons_succ]
          refine wp_region_later w6.heap.size w6 (by kernel_rfl) (by kernel_rfl) (Below.refl _ _) ?_
          repeat (go_big_quiet_step ((go_at_call 14; refine Calls.later0 (nF _))))
          refine wpQuiet_nil ?_
          intro _ hlat
          obtain ⟨z, rfl⟩ := hlat
          have y03 := yL0 z
          have y13 := yL1 z
          have r0 := q0 z
          have r1 := q1 z
          have r2 := q2 z
          have pt7 := (z.below.block gt gtl).trans g6
          have Mt7 := Mt6.mono z.below
          have hM7 := hM6.mono z.below
          have bt7 := below_then bt6 z.below
          have hlen3 := fun ty => hM7.len ty
          rw [HZL.out] at hlen3
          have hmz := Mt7.rd.small
          clear yL0 yL1 q0 q1 q2 nF gtl Mt6 hM6 bt6 g6
          obtain ⟨h5, h6⟩ := HPM.out (of_decide_eq_true HIN.out)
          obtain ⟨c3, hlook3, hc3⟩ := hM7.lookn hlx hly
          obtain rfl : c3 = (p0 : Int) := hc3 p0 h5 h6
          have HH5 := Lib.hid h5
          have HH6 := Lib.hid h6
          clear h5 h6 hc3
          go_wp2_with fail
          refine (manyP_any _ (N : Nat) kz mz kcz sz slz scz hmz).mono ?_
          rintro e w8 ⟨rfl, b8⟩
          have hlen4 := fun ty => (hM7.mono b8).len ty
          rw [HZL.out] at hlen4
          clear hlen3 y03 y13 r0 r1 r2
          go_wp2_with fail
          exact ⟨⟨j + 1, mz, kz, kcz, sz, slz, scz, _, sZ, rsZ, by omega, by simp, HND1.out, by rw [List.length_append]; have := HKJ.out; simp; omega, (b8.block gt (Array.getElem?_eq_some_iff.1 pt7).1).trans pt7, Mt7.mono b8, hM7.mono b8, below_then bt7 b8⟩, by simp [intOf]; omega⟩
    · have f3 : decide (j < n) = false := by simpa using hjn
      obtain rfl : n = j := by omega
      go_wp2_with fail
      go_ret
      exact ⟨rfl, bt⟩
end Go.Proofs.Ytkdhdbfdggihiaa
