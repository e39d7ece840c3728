/- PairsKeeps returns true (by gen05k.py). -/
import Derived.Test.YtkdhdbfdggihiaaPairM
namespace Go.Proofs.Ytkdhdbfdggihiaa
open Go.RowKit Go.Maps
set_option linter.unusedVariables false
set_option linter.unusedSimpArgs false

set_option maxRecDepth 100000 in
set_option maxHeartbeats 8000000 in
theorem pairskeeps_any (w : World) (al : Option Addr) (n cl : Nat) (f : Nat → Nat × Nat) (hA : PrsAt w al n f) :
    Calls Try.prog 4 #[.slice al n cl] w fun e w' => e = .returned (.bool true) ∧ Below w.heap.size w w' := by
  have nb := hA.small
  have hmm := @run_makeMap Try.prog
  go_enter Try.func4, Try.ntmps4
  go_wp2_with fail
  refine (shown_any _).mono ?_
  rintro e w0 ⟨rfl, bt⟩
  by_cases hn60 : 60 < n
  · have f1 : decide ((60 : Int) < (n : Int)) = true := by simp; omega
    go_wp2_with fail
    go_ret
    exact ⟨rfl, bt⟩
  have f1 : decide ((60 : Int) < (n : Int)) = false := by simp; omega
  go_wp2_with fail
  refine (newP_ok _ 100 (by decide)).mono ?_
  rintro e w1 ⟨rfl, b1⟩
  replace bt := below_then bt b1
  clear b1
  have hB := bt.size
  have A := (Below.refl w1.heap.size w1).alloc (Nat.le_refl _) (.cells #[.int .i64 100, .slice none 0 0, .slice none 0 0] 32)
  have pt : (w1.alloc (.cells #[.int .i64 100, .slice none 0 0, .slice none 0 0] 32)).heap[w1.heap.size]? = some (.cells #[.int .i64 100, .slice none 0 0, .slice none 0 0] 32 (0, 0)) := heap_alloc_new _ _
  replace bt := below_then bt A
  go_upto_region 5 with (first | fail)
  obtain ⟨v1, hv⟩ : ∃ v, w1.alloc (.cells #[.int .i64 100, .slice none 0 0, .slice none 0 0] 32) = v := ⟨_, rfl⟩
  obtain ⟨gt, hg⟩ : ∃ g, w1.heap.size = g := ⟨_, rfl⟩
  rw [hv] at pt bt ⊢
  rw [hg] at pt ⊢
  rw [hg] at hB
  clear hv hg A
  have hne : gt ≠ v1.heap.size := Nat.ne_of_lt (Array.getElem?_eq_some_iff.1 pt).1
  have A := (Below.refl v1.heap.size v1).alloc (Nat.le_refl _) (.map #[] 0)
  have hM := AtMapP.made v1
  have hBm := bt.size
  replace pt := (A.block gt (Array.getElem?_eq_some_iff.1 pt).1).trans pt
  replace bt := below_then bt A
  have Mt := TabM.empty (v1.alloc (.map #[] 0)) w.heap.size
  go_upto_region 6 with fail
  obtain ⟨v2, hv⟩ : ∃ v, v1.alloc (.map #[] 0) = v := ⟨_, rfl⟩
  obtain ⟨gm, hg⟩ : ∃ g, v1.heap.size = g := ⟨_, rfl⟩
  rw [hv] at pt bt Mt hM ⊢
  rw [hg] at hne hM hBm ⊢
  clear hv hg A
  go_wp2_with fail
  go_loopw [7] (fun i w' => ∃ (j m : Nat) (ka : Option Addr) (kc : Nat) (sa : Option Addr) (sl sc : Nat) (s : List Int) (rs : List (Nat × Nat)), j ≤ n ∧ i = .int .i64 (j : Nat) ∧ w'.heap[gt]? = some (.cells #[.int .i64 100, .slice ka m kc, .slice sa sl sc] 32 (0, 0)) ∧ TabM w' w.heap.size ka m kc sa sl sc (keysP f j) s rs ∧ AtMapP w' gm j (keysP f j) ∧ Below w.heap.size w w') (fun i _ => n - (intOf i).toNat)
  case atStart => exact ⟨0, 0, none, 0, none, 0, 0, [], [], Nat.zero_le _, rfl, pt, Mt, hM, bt⟩
  case round =>
    clear pt Mt hM bt
    obtain ⟨j, m, ka, kc, sa, sl, sc, s, rs, hj, rfl, pt, Mt, hM, bt⟩ := hrel
    by_cases hjn : j < n
    · have f3 : decide (j < n) = true := by simpa using hjn
      obtain ⟨bl, ol, rfl, hbl, hact⟩ := hA.at_.resolve_left (by omega)
      have hlt := hA.lt j
      have hx := hact j hjn
      have hnd := keysP_nodup f j
      have hkl := keysP_len f j
      have hsucc : keysP f (j + 1) = insK (keysP f j) (pk (f j).1 (f j).2) := rfl
      obtain ⟨⟨x, y⟩, hu⟩ : ∃ u, f j = u := ⟨_, rfl⟩
      rw [hu] at hx hlt hsucc
      simp only [] at hx hlt hsucc
      obtain ⟨hlx, hly⟩ := hlt
      obtain ⟨KS, hKS⟩ : ∃ KS, keysP f j = KS := ⟨_, rfl⟩
      rw [hKS] at Mt hM hnd hkl hsucc
      have hblr : bl < wr.heap.size := Nat.lt_of_lt_of_le hbl bt.size
      have y0 : wr.cell? ⟨bl, ol + j * 2, none⟩ = some (.int .u32 (x : Nat)) := (bt.cell (p := ⟨bl, ol + j * 2, none⟩) hbl).trans hx.1
      have y1 : wr.cell? ⟨bl, ol + j * 2 + 1, none⟩ = some (.int .u32 (y : Nat)) := (bt.cell (p := ⟨bl, ol + j * 2 + 1, none⟩) hbl).trans hx.2
      obtain ⟨cp, hlook, hcp⟩ := hM.look hlx hly
      obtain ⟨W, hW⟩ : ∃ W, decide (pk x y ∈ KS) = W := ⟨_, rfl⟩
      rw [hW] at hlook
      obtain ⟨es, cl2, mp⟩ := hM.map
      have hml := Mt.rd.len
      have HW := Lib.hid hW
      have HCP := Lib.hid hcp
      have HX := Lib.hid hx
      have HS := Lib.hid hsucc
      have HML := Lib.hid hml
      clear hact hu hx hsucc hW hcp hKS hml
      go_upto_region 10 with fail
      go_cut [10, 11, 12, 13] from 35 to 97 (fun v10 v11 v12 v13 w' => ∃ (gx : Nat) (ka' : Option Addr) (n' kc' : Nat) (sa' : Option Addr) (sl' sc' : Nat) (KS' : List (List Nat)) (s' : List Int) (rs' : List (Nat × Nat)) (p : Nat) (F : Bool) (E : Int), v10 = .pointer (some ⟨gx, 0, none⟩) ∧ v11 = .int .i64 (p : Nat) ∧ v12 = .bool F ∧ v13 = .int .i64 E ∧ wr.heap.size ≤ gx ∧ w'.heap[gx]? = some (.cells #[.int .i64 100, .slice ka' n' kc', .slice sa' sl' sc'] 32 (0, 0)) ∧ TabM w' w.heap.size ka' n' kc' sa' sl' sc' KS' s' rs' ∧ TabM w' w.heap.size ka m kc sa sl sc KS s rs ∧ Below w.heap.size w w' ∧ KeptT wr w' w.heap.size ka m sa ka' n' sa' ∧ OutP 100 KS (pk x y) p F E KS' ∧ StayT wr w' F (ka' = ka ∧ n' = m ∧ kc' = kc ∧ sa' = sa ∧ sl' = sl ∧ sc' = sc))
      case first =>
        have bD : Below wr.heap.size wr wr.drew := (Below.refl _ _).drew
        have bAA : Below wr.heap.size wr (wr.alloc (.cells #[.int .i64 0, .slice none 0 0, .slice none 0 0] 32)).drew := ((Below.refl _ _).alloc (Nat.le_refl _) _).drew
        have ptD : wr.drew.heap[gt]? = some (.cells #[.int .i64 100, .slice ka m kc, .slice sa sl sc] 32 (0, 0)) := pt
        have gtl : gt < wr.heap.size := (Array.getElem?_eq_some_iff.1 pt).1
        have ptA := (bAA.block gt gtl).trans pt
        have MD := Mt.mono bD
        have MA := Mt.mono bAA
        have hBD := Nat.le_trans bt.size bD.size
        have hBA := Nat.le_trans bt.size bAA.size
        have hnt : gt ≠ wr.heap.size := Nat.ne_of_lt gtl
        have hnb : bl ≠ wr.heap.size := Nat.ne_of_lt hblr
        have gD0 : wr.drew.cell? ⟨gt, 0, none⟩ = some (.int .i64 100) := cell_of_row _ _ 0 _ _ _ ptD
        have gA0 : (wr.alloc (.cells #[.int .i64 0, .slice none 0 0, .slice none 0 0] 32)).drew.cell? ⟨gt, 0, none⟩ = some (.int .i64 100) := cell_of_row _ _ 0 _ _ _ ptA
        have gD1 : wr.drew.cell? ⟨gt, 1, none⟩ = some (.slice ka m kc) := cell_of_row _ _ 1 _ _ _ ptD
        have gA1 : (wr.alloc (.cells #[.int .i64 0, .slice none 0 0, .slice none 0 0] 32)).drew.cell? ⟨gt, 1, none⟩ = some (.slice ka m kc) := cell_of_row _ _ 1 _ _ _ ptA
        have gD2 : wr.drew.cell? ⟨gt, 2, none⟩ = some (.slice sa sl sc) := cell_of_row _ _ 2 _ _ _ ptD
        have gA2 : (wr.alloc (.cells #[.int .i64 0, .slice none 0 0, .slice none 0 0] 32)).drew.cell? ⟨gt, 2, none⟩ = some (.slice sa sl sc) := cell_of_row _ _ 2 _ _ _ ptA
        have yD0 : wr.drew.cell? ⟨bl, ol + j * 2, none⟩ = some (.int .u32 (x : Nat)) := y0
        have yA0 : (wr.alloc (.cells #[.int .i64 0, .slice none 0 0, .slice none 0 0] 32)).drew.cell? ⟨bl, ol + j * 2, none⟩ = some (.int .u32 (x : Nat)) := (bAA.cell (p := ⟨bl, ol + j * 2, none⟩) hblr).trans y0
        have yD1 : wr.drew.cell? ⟨bl, ol + j * 2 + 1, none⟩ = some (.int .u32 (y : Nat)) := y1
        have yA1 : (wr.alloc (.cells #[.int .i64 0, .slice none 0 0, .slice none 0 0] 32)).drew.cell? ⟨bl, ol + j * 2 + 1, none⟩ = some (.int .u32 (y : Nat)) := (bAA.cell (p := ⟨bl, ol + j * 2 + 1, none⟩) hblr).trans y1
        have zrowA : (wr.alloc (.cells #[.int .i64 0, .slice none 0 0, .slice none 0 0] 32)).drew.heap[wr.heap.size]? = some (.cells #[.int .i64 0, .slice none 0 0, .slice none 0 0] 32 (0, 0)) := heap_alloc_new wr _
        have hI1 := insertP_all wr.drew 100 (by decide) (by decide) w.heap.size ka m kc sa sl sc KS s rs MD hBD x y hlx hly hnd
        have hI2 := insertP_all (wr.alloc (.cells #[.int .i64 0, .slice none 0 0, .slice none 0 0] 32)).drew 100 (by decide) (by decide) w.heap.size ka m kc sa sl sc KS s rs MA hBA x y hlx hly hnd
        clear MD MA pt Mt
        go_region_held3 (fun w' => w'.cell? ⟨gt, 0, none⟩ = some (.int .i64 100) ∧ w'.cell? ⟨gt, 1, none⟩ = some (.slice ka m kc) ∧ w'.cell? ⟨gt, 2, none⟩ = some (.slice sa sl sc) ∧ w'.cell? ⟨bl, ol + j * 2, none⟩ = some (.int .u32 (x : Nat)) ∧ w'.cell? ⟨bl, ol + j * 2 + 1, none⟩ = some (.int .u32 (y : Nat)))
          (first | (refine ⟨?_, ?_, ?_, ?_, ?_⟩ <;> with_reducible assumption) | (refine ⟨?_, ?_, ?_, ?_, ?_⟩; with_reducible exact cellAlloc _ _ r0; with_reducible exact cellAlloc _ _ r1; with_reducible exact cellAlloc _ _ r2; with_reducible exact cellAlloc _ _ ry0; with_reducible exact cellAlloc _ _ ry1) | (refine ⟨?_, ?_, ?_, ?_, ?_⟩; with_reducible exact three_cellU _ _ _ _ _ _ _ hnt r0; with_reducible exact three_cellU _ _ _ _ _ _ _ hnt r1; with_reducible exact three_cellU _ _ _ _ _ _ _ hnt r2; with_reducible exact three_cellU _ _ _ _ _ _ _ hnb ry0; with_reducible exact three_cellU _ _ _ _ _ _ _ hnb ry1))
          (first | (go_at_call 12; (with_reducible refine hI1.mono ?_); rintro e ws ⟨ka', n', kc', sa', sl', sc', KS', s', rs', p, F, E, rfl, Hx, Ho, bx, HT, hout, hst⟩; have HO := Lib.hid hout; clear hout; have rt := HT.recd gt _ _ _ ptD (by decide) (by decide); have r0 : ws.cell? ⟨gt, 0, none⟩ = some (.int .i64 100) := cell_of_row _ _ 0 _ _ _ rt; have r1 : ws.cell? ⟨gt, 1, none⟩ = some (.slice ka m kc) := cell_of_row _ _ 1 _ _ _ rt; have r2 : ws.cell? ⟨gt, 2, none⟩ = some (.slice sa sl sc) := cell_of_row _ _ 2 _ _ _ rt; have ry0 : ws.cell? ⟨bl, ol + j * 2, none⟩ = some (.int .u32 (x : Nat)) := (bx.cell (p := ⟨bl, ol + j * 2, none⟩) (by first | assumption | omega)).trans yD0; have ry1 : ws.cell? ⟨bl, ol + j * 2 + 1, none⟩ = some (.int .u32 (y : Nat)) := (bx.cell (p := ⟨bl, ol + j * 2 + 1, none⟩) (by first | assumption | omega)).trans yD1; have HTW := HT.pre bD; have HST := hst.pre bD; clear hst; have bw : Below w.heap.size w ws := (bt.trans (bD.mono bt.size)).trans bx) | (go_at_call 12; (with_reducible refine hI2.mono ?_); rintro e ws ⟨ka', n', kc', sa', sl', sc', KS', s', rs', p, F, E, rfl, Hx, Ho, bx, HT, hout, hst⟩; have HO := Lib.hid hout; clear hout; have rt := HT.recd gt _ _ _ ptA (by decide) (by decide); have r0 : ws.cell? ⟨gt, 0, none⟩ = some (.int .i64 100) := cell_of_row _ _ 0 _ _ _ rt; have r1 : ws.cell? ⟨gt, 1, none⟩ = some (.slice ka m kc) := cell_of_row _ _ 1 _ _ _ rt; have r2 : ws.cell? ⟨gt, 2, none⟩ = some (.slice sa sl sc) := cell_of_row _ _ 2 _ _ _ rt; have ry0 : ws.cell? ⟨bl, ol + j * 2, none⟩ = some (.int .u32 (x : Nat)) := (bx.cell (p := ⟨bl, ol + j * 2, none⟩) (by first | assumption | omega)).trans yA0; have ry1 : ws.cell? ⟨bl, ol + j * 2 + 1, none⟩ = some (.int .u32 (y : Nat)) := (bx.cell (p := ⟨bl, ol + j * 2 + 1, none⟩) (by first | assumption | omega)).trans yA1; have HTW := HT.pre bAA; have HST := hst.pre bAA; clear hst; have bw : Below w.heap.size w ws := (bt.trans (bAA.mono bt.size)).trans bx; have gz := HT.recd wr.heap.size _ _ _ zrowA (by decide) (by decide); have v0 : ws.cell? ⟨wr.heap.size, 0, none⟩ = some (.int .i64 0) := cell_of_row _ _ 0 _ _ _ gz; have g0 := frozen_of_row ws wr.heap.size 0 _ _ gz; have v1 : ws.cell? ⟨wr.heap.size, 1, none⟩ = some (.slice none 0 0) := cell_of_row _ _ 1 _ _ _ gz; have g1 := frozen_of_row ws wr.heap.size 1 _ _ gz; have v2 : ws.cell? ⟨wr.heap.size, 2, none⟩ = some (.slice none 0 0) := cell_of_row _ _ 2 _ _ _ gz; have g2 := frozen_of_row ws wr.heap.size 2 _ _ gz))
        all_goals
          go_wp2_with fail
          go_meet
          have al := (Below.refl ws.heap.size ws).alloc (Nat.le_refl _) (.cells #[.int .i64 100, .slice ka' n' kc', .slice sa' sl' sc'] 32)
          have hgw := bt.size
          first
          | exact ⟨ws.heap.size, ka', n', kc', sa', sl', sc', KS', s', rs', p, F, E, rfl, rfl, rfl, rfl, HTW.size, heap_alloc_new _ _, Hx.mono al, Ho.mono al, bw.trans (al.mono (Nat.le_trans hgw HTW.size)), HTW.next_below al, HO.out, HST.next_below al⟩
          | exact ⟨wr.heap.size, ka', n', kc', sa', sl', sc', KS', s', rs', p, F, E, rfl, rfl, rfl, rfl, Nat.le_refl _, three_rowU _ _ _ _ _ _ _ _ _ gz, Hx.offrec gz (noU8_rec gz fun v hv m => by simp at hv; rcases hv with rfl | rfl | rfl <;> simp) (by decide) (by decide) (three_size _ _ _ _ _) (fun b hb => three_other _ _ _ _ _ _ hb), Ho.offrec gz (noU8_rec gz fun v hv m => by simp at hv; rcases hv with rfl | rfl | rfl <;> simp) (by decide) (by decide) (three_size _ _ _ _ _) (fun b hb => three_other _ _ _ _ _ _ hb), three_below bw hgw _ _ _, HTW.store (Nat.le_refl _) gz (noU8_rec gz fun v hv m => by simp at hv; rcases hv with rfl | rfl | rfl <;> simp) (by decide) (by decide) (three_size _ _ _ _ _) (fun b hb => three_other _ _ _ _ _ _ hb), HO.out, HST.next fun h => three_below h (Nat.le_refl _) _ _ _⟩
      case rest =>
        obtain ⟨gx, kz, mz, kcz, sz, slz, scz, KZ, sZ, rsZ, p, F, E, rfl, rfl, rfl, rfl, hgx, px, Mx, Mo, bx, HT, hout, hst⟩ := hcut
        have pt2 := HT.recd gt _ _ _ pt (by decide) (by decide)
        have mp2 := HT.map gm _ _ mp
        have hM2 := hM.block mp mp2
        have y02 : wc.cell? ⟨bl, ol + j * 2, none⟩ = some (.int .u32 (x : Nat)) := (bx.cell (p := ⟨bl, ol + j * 2, none⟩) hbl).trans HX.out.1
        have y12 : wc.cell? ⟨bl, ol + j * 2 + 1, none⟩ = some (.int .u32 (y : Nat)) := (bx.cell (p := ⟨bl, ol + j * 2 + 1, none⟩) hbl).trans HX.out.2
        obtain ⟨hF, rfl, rfl, hp, hpk, hfp⟩ := hout.room (by omega)
        have hlen2 := fun ty => hM2.len ty
        have hKO := keyOf_p hlx hly
        have hnd2 := hnd
        have hpn : p ≤ 200 := by rw [insK_len] at hp; have := Bool.toNat_le (!decide (pk x y ∈ KS)); omega
        rw [HW.out] at hF
        obtain ⟨D, hown, hD⟩ := hM2
        have HP := Lib.hid hp
        have HPK := Lib.hid hpk
        have HND := Lib.hid hnd
        have HFP := Lib.hid hfp
        have HSZ := Lib.hid HML.out
        have hcpp : W = true → cp = (p : Int) := fun hw => HCP.out p (by
          have hm : pk x y ∈ KS := of_decide_eq_true (by rw [HW.out, hw])
          have := hp
          unfold insK at this
          rwa [if_pos hm] at this) (by
          have hm : pk x y ∈ KS := of_decide_eq_true (by rw [HW.out, hw])
          have := hpk
          unfold insK at this
          rwa [if_pos hm] at this)
        have hpp : F = true → p = m := fun hw => by rw [HFP.out hw, HML.out]
        rw [HML.out] at hlen2
        have hn2 : m ≤ 200 := by have := HML.out; omega
        clear pt Mt Mo y0 y1 hst HT hM mp hlook hp hpk hnd hnd2 hfp hout
        subst hF
        have fin : ∀ w9 w6 : World, w9.ownsMap Try.prog 44 (plainElem Try.prog 3) gm (j + 1) (D.put (litP x y) (.lit (.int .i64 (p : Nat)))) → wc.grownBy w9 (some gm) → (∀ b, b < wc.heap.size → b ≠ gm → w9.heap[b]? = wc.heap[b]?) → w9.heap[gt]? = some (.cells #[.int .i64 100, .slice ka m kc, .slice sa sl sc] 32 (0, 0)) → w6.heap[gt]? = some (.cells #[.int .i64 100, .slice kz mz kcz, .slice sz slz scz] 32 (0, 0)) → w6.heap.size = w9.heap.size → (∀ b, b ≠ gt → w6.heap[b]? = w9.heap[b]?) → Below gt w9 w6 → (∃ (j_1 m : Nat) (ka : Option Addr) (kc : Nat) (sa : Option Addr) (sl sc : Nat) (s : List Int) (rs : List (Nat × Nat)), j_1 ≤ n ∧ Value.int .i64 ((j : Int) + 1) = .int .i64 (j_1 : Nat) ∧ w6.heap[gt]? = some (.cells #[.int .i64 100, .slice ka m kc, .slice sa sl sc] 32 (0, 0)) ∧ TabM w6 w.heap.size ka m kc sa sl sc (keysP f j_1) s rs ∧ AtMapP w6 gm j_1 (keysP f j_1) ∧ Below w.heap.size w w6) := fun w9 w6 h1 h2 h3 h4 g6 z6 o6 b6 =>
          ⟨j + 1, mz, kz, kcz, sz, slz, scz, sZ, rsZ, by omega, by simp, g6, by rw [HS.out]; exact (Mx.offmap mp2 h2.size h3).recd h4 (by decide) (by decide) z6 (fun b hb => o6 b hb), by rw [HS.out]; exact (atMapP_put hown hD hlx hly HND.out HP.out HPK.out h1).same (o6 gm hne.symm), (bx.grown h2 bx.size (fun c hc => by cases hc; exact hBm)).trans (b6.mono hB)⟩
        have FIN := Lib.hid fin
        clear fin
        cases W with
        | true =>
          obtain rfl := hcpp rfl
          clear hcpp hpp
          go_wp2_with (first | (at_mapUpdate; refine wpList_mapUpdate_own _ rfl _ _ _ 55 rfl 44 3 pairK_law Try.underlying55 _ gm j D rfl hown (by unfold maxLen; omega) _ _ (litP x y) rfl rfl hKO (.lit (.int .i64 (p : Nat))) [] (plainElem_int Try.underlying3 (WalkArith.wf_i64 (by omega))) ?_; intro w9 hown9 hg9; have ho9 : ∀ b, b < wc.heap.size → b ≠ gm → w9.heap[b]? = wc.heap[b]? := fun b hb hne => hg9.block b hb (fun he => hne (Option.some.inj he)); have pt9 := cells_off mp2 ho9 pt2; have px9 := cells_off mp2 ho9 px) | (refine wpList_load_row rfl 32 _ rfl gx rfl 32 _ _ _ px9 Try.underlying32 rfl (by kernel_rfl) ?_) | (refine store_rec rfl 32 (.tmp 4) (.tmp 97) rfl gt #[.int .i64 100, .slice kz mz kcz, .slice sz slz scz] rfl rfl 32 _ pt9 (by kernel_rfl) rfl (by simp [Value.oneCell']) ?_; intro w6 g6 z6 o6 b6))
          exact ⟨FIN.out w9 w6 hown9 hg9 ho9 pt9 g6 z6 o6 b6, by simp [intOf]; omega⟩
        | false =>
          obtain rfl := hpp rfl
          clear hcpp
          go_wp2_with (first | (at_mapUpdate; refine wpList_mapUpdate_own _ rfl _ _ _ 55 rfl 44 3 pairK_law Try.underlying55 _ gm j D rfl hown (by unfold maxLen; omega) _ _ (litP x y) rfl rfl hKO (.lit (.int .i64 (p : Nat))) [] (plainElem_int Try.underlying3 (WalkArith.wf_i64 (by omega))) ?_; intro w9 hown9 hg9; have ho9 : ∀ b, b < wc.heap.size → b ≠ gm → w9.heap[b]? = wc.heap[b]? := fun b hb hne => hg9.block b hb (fun he => hne (Option.some.inj he)); have pt9 := cells_off mp2 ho9 pt2; have px9 := cells_off mp2 ho9 px) | (refine wpList_load_row rfl 32 _ rfl gx rfl 32 _ _ _ px9 Try.underlying32 rfl (by kernel_rfl) ?_) | (refine store_rec rfl 32 (.tmp 4) (.tmp 97) rfl gt #[.int .i64 100, .slice kz mz kcz, .slice sz slz scz] rfl rfl 32 _ pt9 (by kernel_rfl) rfl (by simp [Value.oneCell']) ?_; intro w6 g6 z6 o6 b6))
          exact ⟨FIN.out w9 w6 hown9 hg9 ho9 pt9 g6 z6 o6 b6, by simp [intOf]; omega⟩
    · have f3 : decide (j < n) = false := by simpa using hjn
      obtain rfl : n = j := by omega
      have hnd := keysP_nodup f n
      have hmem := keysP_mem f n
      have hsh := keysP_short f n
      obtain ⟨KS, hKS⟩ : ∃ KS, keysP f n = KS := ⟨_, rfl⟩
      rw [hKS] at Mt hM hnd hmem hsh
      have hml := Mt.rd.len
      have hm20 := Mt.rd.small
      have HML := Lib.hid hml
      have HMEM := Lib.hid hmem
      have HND := Lib.hid hnd
      have HSH := Lib.hid hsh
      clear hml hKS hmem hnd hsh
      go_wp2_with fail
      clear f3
      go_loopw [14] (fun i w' => ∃ j, j ≤ n ∧ i = .int .i64 (j : Nat) ∧ w'.heap[gt]? = some (.cells #[.int .i64 100, .slice ka m kc, .slice sa sl sc] 32 (0, 0)) ∧ TabM w' w.heap.size ka m kc sa sl sc KS s rs ∧ AtMapP w' gm n KS ∧ Below w.heap.size w w') (fun i _ => n - (intOf i).toNat)
      case atStart => exact ⟨0, Nat.zero_le _, rfl, pt, Mt, hM, bt⟩
      case round =>
        clear pt Mt hM bt
        obtain ⟨j, hj, rfl, pt, Mt, hM, bt⟩ := hrel
        by_cases hjn : j < n
        · have f3 : decide (j < n) = true := by simpa using hjn
          obtain ⟨bl, ol, rfl, hbl, hact⟩ := hA.at_.resolve_left (by omega)
          have hlt := hA.lt j
          have hx := hact j hjn
          have hin := HMEM.out j hjn
          obtain ⟨⟨x, y⟩, hu⟩ : ∃ u, f j = u := ⟨_, rfl⟩
          rw [hu] at hx hlt hin
          simp only [] at hx hlt hin
          obtain ⟨hlx, hly⟩ := hlt
          have HX := Lib.hid hx
          have yL0 : ∀ z : Later wr.heap.size wr, z.w.cell? ⟨bl, ol + j * 2, none⟩ = some (.int .u32 (x : Nat)) := fun z => ((below_then bt z.below).cell (p := ⟨bl, ol + j * 2, none⟩) hbl).trans hx.1
          have yL1 : ∀ z : Later wr.heap.size wr, z.w.cell? ⟨bl, ol + j * 2 + 1, none⟩ = some (.int .u32 (y : Nat)) := fun z => ((below_then bt z.below).cell (p := ⟨bl, ol + j * 2 + 1, none⟩) hbl).trans hx.2
          have gtl := (Array.getElem?_eq_some_iff.1 pt).1
          have q0 : ∀ z : Later wr.heap.size wr, z.w.cell? ⟨gt, 0, none⟩ = some (.int .i64 100) := fun z => cell_of_row _ _ 0 _ _ _ ((z.below.block gt gtl).trans pt)
          have q1 : ∀ z : Later wr.heap.size wr, z.w.cell? ⟨gt, 1, none⟩ = some (.slice ka m kc) := fun z => cell_of_row _ _ 1 _ _ _ ((z.below.block gt gtl).trans pt)
          have q2 : ∀ z : Later wr.heap.size wr, z.w.cell? ⟨gt, 2, none⟩ = some (.slice sa sl sc) := fun z => cell_of_row _ _ 2 _ _ _ ((z.below.block gt gtl).trans pt)
          obtain ⟨p0, ⟨hpu, hpm⟩, hF⟩ := findP_in KS HND.out x y hlx hly
          obtain ⟨hp0, hpk0⟩ := hpm hin
          rw [decide_eq_true hin] at hF
          obtain ⟨p2, ⟨hpu2, hpm2⟩, hF2⟩ := findP_in KS HND.out y x hly hlx
          obtain ⟨W2, hW2⟩ : ∃ W, decide (pk y x ∈ KS) = W := ⟨_, rfl⟩
          rw [hW2] at hF2
          have nF := fun z : Later wr.heap.size wr => hF z.w 100 ka m kc sa sl sc s rs (Mt.rd.mono z.below)
          have HF2 := Lib.hid hF2
          have HP0 := Lib.hid hp0
          have HPK0 := Lib.hid hpk0
          have HPM2 := Lib.hid hpm2
          have HW2 := Lib.hid hW2
          clear hact hu hx hin hpu hpm hF hF2 hpu2 hpm2 hp0 hpk0 hW2
          go_wp2_with fail
          refine wp_region_later wr.heap.size wr (by kernel_rfl) (by kernel_rfl) (Below.refl _ _) ?_
          repeat (go_big_quiet_step ((go_at_call 14; refine Calls.later0 (nF _))))
          refine wpQuiet_nil ?_
          intro _ hlat
          obtain ⟨z, rfl⟩ := hlat
          have pt2 := (z.below.block gt gtl).trans pt
          have Mt2 := Mt.mono z.below
          have hM2 := hM.mono z.below
          have bt2 := below_then bt z.below
          clear yL0 yL1 q0 q1 q2 nF gtl pt Mt hM bt
          have hp0m : p0 < m := by have := HP0.out; have := HML.out; omega
          go_wp2_with (first | (refine wpList_load_row rfl 32 _ rfl gt rfl 32 _ _ _ pt2 Try.underlying32 rfl (by kernel_rfl) ?_) | fail)
          refine (pairP_ok z.w 100 ka m kc sa sl sc KS s rs Mt2.rd HSH.out p0 hp0m x y hlx hly HPK0.out).mono ?_
          rintro e w3 ⟨rfl, b3⟩
          have pt3 := (b3.block gt (Array.getElem?_eq_some_iff.1 pt2).1).trans pt2
          have Mt3 := Mt2.mono b3
          have hM3 := hM2.mono b3
          have bt3 := below_then bt2 b3
          have y0 : w3.cell? ⟨bl, ol + j * 2, none⟩ = some (.int .u32 (x : Nat)) := (bt3.cell (p := ⟨bl, ol + j * 2, none⟩) hbl).trans HX.out.1
          have y1 : w3.cell? ⟨bl, ol + j * 2 + 1, none⟩ = some (.int .u32 (y : Nat)) := (bt3.cell (p := ⟨bl, ol + j * 2 + 1, none⟩) hbl).trans HX.out.2
          have hbd : ∀ w, (Instr.build 44 #[(0, .int .u32 (y : Int)), (1, .int .u32 (x : Int))]).run Try.prog w = .ok (.agg #[.int .u32 (y : Int), .int .u32 (x : Int)]) w := fun w => run_build w 44 _ _ (by kernel_rfl)
          have hnb : bl < w3.heap.size := Nat.lt_of_lt_of_le hbl bt3.size
          clear pt2 Mt2 hM2 bt2 b3
          go_wp2_with fail
          have A := ((Below.refl w3.heap.size w3).alloc (Nat.le_refl _) (.cells #[.int .u32 (y : Int), .int .u32 (x : Int)] 44)).drew
          have pq : (w3.alloc (.cells #[.int .u32 (y : Int), .int .u32 (x : Int)] 44)).drew.heap[w3.heap.size]? = some (.cells #[.int .u32 (y : Int), .int .u32 (x : Int)] 44 (0, 0)) := heap_alloc_new w3 _
          have pt4 := (A.block gt (Array.getElem?_eq_some_iff.1 pt3).1).trans pt3
          have Mt4 := Mt3.mono A
          have hM4 := hM3.mono A
          have bt4 := below_then bt3 A
          go_region
          go_upto_region 21 with fail
          clear y0 y1 hbd pt3 Mt3 hM3 bt3 hnb
          obtain ⟨W4, hv⟩ : ∃ v, (w3.alloc (.cells #[.int .u32 (y : Int), .int .u32 (x : Int)] 44)).drew = v := ⟨_, rfl⟩
          obtain ⟨gq, hg⟩ : ∃ g, w3.heap.size = g := ⟨_, rfl⟩
          rw [hv] at pq pt4 Mt4 hM4 bt4 ⊢
          rw [hg] at pq ⊢
          clear hv hg A
          obtain ⟨c2, hlook2, hc2⟩ := hM4.look hly hlx
          rw [HW2.out] at hlook2
          have u0 := cell_of_row _ _ 0 _ _ _ pq
          have u1 := cell_of_row _ _ 1 _ _ _ pq
          simp only [List.getElem?_toArray, List.getElem?_cons_zero, List.getElem?_cons_succ] at u0 u1
          have HC2 := Lib.hid hc2
          clear hc2
          go_wp2_with (first | (refine wpList_load_row rfl 32 _ rfl gt rfl 32 _ _ _ pt4 Try.underlying32 rfl (by kernel_rfl) ?_) | fail)
          refine (HF2.out W4 100 ka m kc sa sl sc s rs Mt4.rd).mono ?_
          rintro e w5 ⟨rfl, b5⟩
          have pt5 := (b5.block gt (Array.getElem?_eq_some_iff.1 pt4).1).trans pt4
          have Mt5 := Mt4.mono b5
          have hM5 := hM4.mono b5
          have bt5 := below_then bt4 b5
          have y0 : w5.cell? ⟨bl, ol + j * 2, none⟩ = some (.int .u32 (x : Nat)) := (bt5.cell (p := ⟨bl, ol + j * 2, none⟩) hbl).trans HX.out.1
          have y1 : w5.cell? ⟨bl, ol + j * 2 + 1, none⟩ = some (.int .u32 (y : Nat)) := (bt5.cell (p := ⟨bl, ol + j * 2 + 1, none⟩) hbl).trans HX.out.2
          obtain ⟨c3, hlook3, hc3⟩ := hM5.lookn hlx hly
          obtain rfl : c3 = (p0 : Int) := hc3 p0 HP0.out HPK0.out
          have hcc : W2 = true → (p2 : Int) = c2 := fun hw => by
            obtain ⟨h1, h2⟩ := HPM2.out (of_decide_eq_true (by rw [HW2.out, hw]))
            exact (HC2.out p2 h1 h2).symm
          clear pt4 Mt4 hM4 bt4 hlook2 u0 u1 pq hc3 b5
          cases W2 with
          | true =>
            obtain rfl := hcc rfl
            clear hcc
            go_wp2_with fail
            exact ⟨⟨j + 1, by omega, by simp, pt5, Mt5, hM5, bt5⟩, by simp [intOf]; omega⟩
          | false =>
            clear hcc
            go_wp2_with fail
            exact ⟨⟨j + 1, by omega, by simp, pt5, Mt5, hM5, bt5⟩, by simp [intOf]; omega⟩
        · have f3 : decide (j < n) = false := by simpa using hjn
          have q0 := cell_of_row _ _ 0 _ _ _ pt
          have q1 := cell_of_row _ _ 1 _ _ _ pt
          have q2 := cell_of_row _ _ 2 _ _ _ pt
          simp only [List.getElem?_toArray, List.getElem?_cons_zero, List.getElem?_cons_succ] at q0 q1 q2
          go_wp2_with fail
          refine (manyP_any _ 100 ka m kc sa sl sc hm20).mono ?_
          rintro e w5 ⟨rfl, b5⟩
          have hlen2 := fun ty => (hM.mono b5).len ty
          rw [HML.out] at hlen2
          go_wp2_with fail
          go_ret
          exact ⟨rfl, below_then bt b5⟩
end Go.Proofs.Ytkdhdbfdggihiaa
