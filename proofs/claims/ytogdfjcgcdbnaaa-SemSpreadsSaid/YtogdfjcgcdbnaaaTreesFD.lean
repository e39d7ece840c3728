/- What trees come to: the program's Eval, kinds 7, 8 (by gen17c.py). -/
import Derived.Test.YtogdfjcgcdbnaaaTreesF
namespace Go.Proofs.Ytogdfjcgcdbnaaa
open Go.RowKit
set_option linter.unusedVariables false
set_option linter.unusedSimpArgs false
set_option maxRecDepth 40000 in
set_option maxHeartbeats 2000000 in
theorem eval_7 (n pl : Int) (len : Nat) (sub : Nat → T) (ih : ∀ j, EvalOK (sub j)) : EvalOK (.node 7 n pl len sub) := by
    obtain ⟨op, hop⟩ : ∃ op : Int, op = 7 := ⟨_, rfl⟩
    rw [← hop]
    have HOP := Lib.hid hop
    clear hop
    rintro w v va vl vc V ⟨a, cap, rfl, ho, hn, hp, hl, hnone, hat⟩ hV hmay hty
    have ho14 : op ≤ 14 := by
      rcases hty with h | h
      · have := (ty_int hmay h).1; omega
      · exact h.2
    have hty0 : tyT (.node op n pl len sub) ≠ 0 := by
      rcases hty with h | h
      · omega
      · exact h.1
    have hsub := ty_cmp hmay hty0 ho14
    obtain ⟨m1, m2, m3, m4⟩ := hmay
    have hlen2 : len ≤ 2 := by
      rw [m3]; unfold arity
      split
      · omega
      · split <;> omega
    have hV0 := hV.len_eq
    have IH := fun i (hi : i < len) => ih i
    have M3 := Lib.hid m3
    have M4 := Lib.hid m4
    have HSUB := Lib.hid hsub
    clear hty hty0 m3 m4 hsub IH
    have A := (Below.refl w.heap.size w).alloc (Nat.le_refl _) (.cells #[.int .i64 op, .int .i64 n, .int .i64 pl, .slice a len cap] 24)
    have pt : (w.alloc (.cells #[.int .i64 op, .int .i64 n, .int .i64 pl, .slice a len cap] 24)).heap[w.heap.size]? = some (.cells #[.int .i64 op, .int .i64 n, .int .i64 pl, .slice a len cap] 24 (0, 0)) := heap_alloc_new _ _
    go_enter Try.func32, Try.ntmps32
    go_upto_region 1 with fail
    obtain ⟨v1, hv⟩ : ∃ v, w.alloc (.cells #[.int .i64 op, .int .i64 n, .int .i64 pl, .slice a len cap] 24) = v := ⟨_, rfl⟩
    obtain ⟨gt, hg⟩ : ∃ g, w.heap.size = g := ⟨_, rfl⟩
    rw [hv] at pt A ⊢
    rw [hg] at pt ⊢
    have bt := A
    have hgw : w.heap.size ≤ gt := Nat.le_of_eq hg
    clear hv hg A
    have A := (Below.refl v1.heap.size v1).alloc (Nat.le_refl _) (.cells #[.int .i64 0, .int .i64 0] 57)
    have ps : (v1.alloc (.cells #[.int .i64 0, .int .i64 0] 57)).heap[v1.heap.size]? = some (.cells #[.int .i64 0, .int .i64 0] 57 (0, 0)) := heap_alloc_new _ _
    go_upto_region 2 with fail
    obtain ⟨v2, hv⟩ : ∃ v, v1.alloc (.cells #[.int .i64 0, .int .i64 0] 57) = v := ⟨_, rfl⟩
    have hgts : gt < v1.heap.size := (Array.getElem?_eq_some_iff.1 pt).1
    replace pt := (A.block gt hgts).trans pt
    replace bt := below_then bt A
    obtain ⟨gs, hg⟩ : ∃ g, v1.heap.size = g := ⟨_, rfl⟩
    have hgsw : w.heap.size ≤ gs := by omega
    rw [hv] at pt bt ps ⊢
    rw [hg] at ps hgts ⊢
    clear hv hg A
    have c3 : v2.cell? ⟨gt, 3, none⟩ = some (.slice a len cap) := cell_of_row _ _ 3 _ _ _ pt
    go_wp2_with fail
    clear c3
    go_loopw [13] (fun i w' => ∃ (j : Nat), j ≤ len ∧ i = .int .i64 (j : Nat) ∧ w'.heap[gt]? = some (.cells #[.int .i64 op, .int .i64 n, .int .i64 pl, .slice a len cap] 24 (0, 0)) ∧ w'.heap[gs]? = some (.cells #[.int .i64 (sideV V sub 0 j), .int .i64 (sideV V sub 1 j)] 57 (0, 0)) ∧ Below w.heap.size w w') (fun i _ => len - (intOf i).toNat)
    case atStart => exact ⟨0, Nat.zero_le _, rfl, pt, ps, bt⟩
    case round =>
      clear pt ps bt
      obtain ⟨j, hj, rfl, pt, ps, bt⟩ := hrel
      by_cases hjl : j < len
      · have f1 : decide (j < len) = true := by simpa using hjl
        obtain ⟨b, off, rfl, hlt, hi⟩ := hat.resolve_left (by omega)
        obtain ⟨o', n', p', a', l', c', g0, g1, g2, g3, g4⟩ := hi j hjl
        have y0 : wr.cell? ⟨b, off + j * 4, none⟩ = some (.int .i64 o') := (bt.cell (p := ⟨b, _, none⟩) hlt).trans g0
        have y1 : wr.cell? ⟨b, off + j * 4 + 1, none⟩ = some (.int .i64 n') := (bt.cell (p := ⟨b, _, none⟩) hlt).trans g1
        have y2 : wr.cell? ⟨b, off + j * 4 + 2, none⟩ = some (.int .i64 p') := (bt.cell (p := ⟨b, _, none⟩) hlt).trans g2
        have y3 : wr.cell? ⟨b, off + j * 4 + 3, none⟩ = some (.slice a' l' c') := (bt.cell (p := ⟨b, _, none⟩) hlt).trans g3
        have hj2 : j < 2 := by omega
        have m1' : (j : Int).tmod 2 = (j : Int) := by rw [Int.tmod_eq_emod_of_nonneg (by omega)]; omega
        have m2' : (j : Int) % 2 = (j : Int) := by omega
        go_upto_region 5 with (refine store_rec rfl 24 (.tmp 7) (.tmp 17) rfl wr.heap.size #[.int .i64 o', .int .i64 n', .int .i64 p', .slice a' l' c'] rfl rfl 24 _ (heap_alloc_new wr _) (by kernel_rfl) rfl (by simp [Value.oneCell']) ?_; intro w6 g6 z6 o6 b6)
        have b7 : Below wr.heap.size wr w6 := ((Below.refl _ _).alloc (Nat.le_refl _) _).trans b6
        have hgl : gs < wr.heap.size := (Array.getElem?_eq_some_iff.1 ps).1
        have ps6 := (b7.block gs hgl).trans ps
        have pt6 := (b7.block gt (Array.getElem?_eq_some_iff.1 pt).1).trans pt
        have bt6 := below_then bt b7
        obtain ⟨gx, hgx⟩ : ∃ g, wr.heap.size = g := ⟨_, rfl⟩
        rw [hgx] at g6 ⊢
        have d0 : w6.cell? ⟨gx, 0, none⟩ = some (.int .i64 o') := cell_of_row _ _ 0 _ _ _ g6
        have d1 : w6.cell? ⟨gx, 1, none⟩ = some (.int .i64 n') := cell_of_row _ _ 1 _ _ _ g6
        have d2 : w6.cell? ⟨gx, 2, none⟩ = some (.int .i64 p') := cell_of_row _ _ 2 _ _ _ g6
        have d3 : w6.cell? ⟨gx, 3, none⟩ = some (.slice a' l' c') := cell_of_row _ _ 3 _ _ _ g6
        clear y0 y1 y2 y3 pt ps z6 o6 b6 b7 hgx
        go_wp2_with fail
        refine (ih j _ _ va vl vc V (g4.mono bt6) (hV.mono bt6) (M4.out j hjl) (.inl (HSUB.out j hjl))).mono ?_
        rintro e w8 ⟨rfl, b8⟩
        have pt8 := (b8.block gt (Array.getElem?_eq_some_iff.1 pt6).1).trans pt6
        have ps8 := (b8.block gs (Array.getElem?_eq_some_iff.1 ps6).1).trans ps6
        have bt8 := below_then bt6 b8
        clear d0 d1 d2 d3 pt6 ps6 g6 g4
        obtain ⟨E, hE⟩ : ∃ E, evT V (sub j) = E := ⟨_, rfl⟩
        rw [hE]
        have HE := Lib.hid hE
        clear hE
        have s0 : w8.cell? ⟨gs, 0, none⟩ = some (.int .i64 (sideV V sub 0 j)) := cell_of_row _ _ 0 _ _ _ ps8
        have s1 : w8.cell? ⟨gs, 1, none⟩ = some (.int .i64 (sideV V sub 1 j)) := cell_of_row _ _ 1 _ _ _ ps8
        have fz0 := frozen_of_row w8 gs 0 _ _ ps8
        have fz1 := frozen_of_row w8 gs 1 _ _ ps8
        have ptS : ∀ i v, (w8.setCell ⟨gs, i, none⟩ v).heap[gt]? = some (.cells #[.int .i64 op, .int .i64 n, .int .i64 pl, .slice (some ⟨b, off, none⟩) len cap] 24 (0, 0)) := fun i v => by rw [Below.heap_setCell _ _ _ _ (show gt ≠ gs by omega)]; exact pt8
        have btS : ∀ i v, Below w.heap.size w (w8.setCell ⟨gs, i, none⟩ v) := fun i v => bt8.setCell hgsw _
        have HPT := Lib.hid ptS
        have HBT := Lib.hid btS
        clear ptS btS pt8 bt8
        rcases (by omega : j = 0 ∨ j = 1) with rfl | rfl
        · have q1 := Joins.block_setCell (i := 0) ps8 (.int .i64 E)
          have r1 : sideV V sub 0 1 = E := by unfold sideV; rw [if_pos (by decide)]; exact HE.out
          have HR1 := Lib.hid r1
          have HQ1 := Lib.hid q1
          clear r1 q1
          go_wp2_with fail
          exact ⟨⟨1, by omega, rfl, HPT.out _ _, by rw [HR1.out]; exact HQ1.out, HBT.out _ _⟩, by simp [intOf]; omega⟩
        · have q1 := Joins.block_setCell (i := 1) ps8 (.int .i64 E)
          have r1 : sideV V sub 1 2 = E := by unfold sideV; rw [if_pos (by decide)]; exact HE.out
          have HR1 := Lib.hid r1
          have HQ1 := Lib.hid q1
          clear r1 q1
          go_wp2_with fail
          exact ⟨⟨2, by omega, rfl, HPT.out _ _, by rw [HR1.out]; exact HQ1.out, HBT.out _ _⟩, by simp [intOf]; omega⟩
      · have f1 : decide (j < len) = false := by simpa using hjl
        obtain rfl : len = j := by omega
        obtain ⟨xa, hxa⟩ : ∃ x, sideV V sub 0 len = x := ⟨_, rfl⟩
        obtain ⟨xb, hxb⟩ : ∃ x, sideV V sub 1 len = x := ⟨_, rfl⟩
        rw [hxa, hxb] at ps
        have hev : evT V (.node op n pl len sub) = evOp V op n xa xb := by rw [← hxa, ← hxb]; rfl
        have HEV := Lib.hid hev
        have a0 : ∀ z : Later wr.heap.size wr, z.w.cell? ⟨gs, 0, none⟩ = some (.int .i64 xa) := fun z => cell_of_row _ _ 0 _ _ _ ((z.below.block gs (Array.getElem?_eq_some_iff.1 ps).1).trans ps)
        have a1 : ∀ z : Later wr.heap.size wr, z.w.cell? ⟨gs, 1, none⟩ = some (.int .i64 xb) := fun z => cell_of_row _ _ 1 _ _ _ ((z.below.block gs (Array.getElem?_eq_some_iff.1 ps).1).trans ps)
        clear hxa hxb hev HSUB M4 ih hat
        go_wp2_with fail
        refine wp_region_later wr.heap.size wr (by kernel_rfl) (by kernel_rfl) (Below.refl _ _) ?_
        repeat (go_big_quiet_step (fail))
        refine wpQuiet_nil ?_
        intro _ hlat
        obtain ⟨z, rfl⟩ := hlat
        have pz := (z.below.block gt (Array.getElem?_eq_some_iff.1 pt).1).trans pt
        have bz := below_then bt z.below
        have hVz := hV.mono bz
        have c0 : z.w.cell? ⟨gt, 0, none⟩ = some (.int .i64 op) := cell_of_row _ _ 0 _ _ _ pz
        have c1 : z.w.cell? ⟨gt, 1, none⟩ = some (.int .i64 n) := cell_of_row _ _ 1 _ _ _ pz
        clear a0 a1 ps pt bt f1 hj
        have hop := HOP.out
        subst hop
        clear HOP
        go_upto_block 19 with fail
        refine wp_mono (Q := EvR V (.node 7 n pl len sub) w) ?_ ?_
        ·
          refine block_skip (fun e a w h => by rw [h.1]; simp) (seq_skip (fun e a w h => by rw [h.1]; simp) ?_)
          refine block_skip (fun e a w h => by rw [h.1]; simp) (seq_skip (fun e a w h => by rw [h.1]; simp) ?_)
          refine block_skip (fun e a w h => by rw [h.1]; simp) (seq_skip (fun e a w h => by rw [h.1]; simp) ?_)
          refine block_skip (fun e a w h => by rw [h.1]; simp) (seq_skip (fun e a w h => by rw [h.1]; simp) ?_)
          refine block_skip (fun e a w h => by rw [h.1]; simp) (seq_skip (fun e a w h => by rw [h.1]; simp) ?_)
          refine block_skip (fun e a w h => by rw [h.1]; simp) (seq_then (S := (SwS (.slice va vl vc) gt z.w (.int .i64 (xa)) (.int .i64 (xb)))) ?_ ?_)
          ·
            refine block_hit ?_
            refine seq_skip (fun e a w h => by rw [h.1]; simp) ?_
            refine block_skip (fun e a w h => by rw [h.1]; simp) (seq_skip (fun e a w h => by rw [h.1]; simp) ?_)
            refine block_skip (fun e a w h => by rw [h.1]; simp) (seq_skip (fun e a w h => by rw [h.1]; simp) ?_)
            refine block_skip (fun e a w h => by rw [h.1]; simp) (seq_skip (fun e a w h => by rw [h.1]; simp) ?_)
            refine block_skip (fun e a w h => by rw [h.1]; simp) (seq_skip (fun e a w h => by rw [h.1]; simp) ?_)
            refine block_skip (fun e a w h => by rw [h.1]; simp) (seq_skip (fun e a w h => by rw [h.1]; simp) ?_)
            refine block_skip (fun e a w h => by rw [h.1]; simp) (seq_skip (fun e a w h => by rw [h.1]; simp) ?_)
            refine block_skip (fun e a w h => by rw [h.1]; simp) (seq_skip (fun e a w h => by rw [h.1]; simp) ?_)
            refine block_skip (fun e a w h => by rw [h.1]; simp) (seq_skip (fun e a w h => by rw [h.1]; simp) ?_)
            refine block_skip (fun e a w h => by rw [h.1]; simp) (seq_skip (fun e a w h => by rw [h.1]; simp) ?_)
            refine wp_mono (Q := fun e a w' => e = Exit.exit 13 ∧ a.defers = [] ∧ a.tmps.size = 122 ∧ a.tmps.getD 1 undef = .slice va vl vc ∧ a.tmps.getD 2 undef = .pointer (some ⟨gt, 0, none⟩) ∧ a.tmps.getD 8 undef = .int .i64 xa ∧ a.tmps.getD 9 undef = .int .i64 xb ∧ z.w = w') ?_ (fun e a w' h => ⟨h.1, h.2⟩)
            go_wp2_with fail
            all_goals exact ⟨rfl, rfl, rfl, rfl, rfl, rfl, rfl, rfl⟩
          ·
            rintro a w' hs
            obtain ⟨U, rfl, rfl⟩ := hs.frame
            clear hs
            unfold EvR
            rw [HEV.out, ev7]
            have BZ := Lib.hid bz
            go_wp2_with fail
            refine (truth_any _ _).mono ?_
            rintro e w9 ⟨rfl, b9⟩
            have H10 := Lib.hid (below_then bz b9)
            go_wp2_with fail
            all_goals first | exact ⟨by simp [b01, t01], H10.out⟩ | exact ⟨rfl, rfl, by simp [b01, t01], H10.out⟩
        rintro e ⟨tm, df⟩ w' ⟨rfl, hdf, h4, hb⟩
        simp only [] at hdf h4
        subst hdf
        have hfin : bodyPost Try.prog Try.f32 (fun e w' => e = .returned (.int .i64 (evT V (.node 7 n pl len sub))) ∧ Below w.heap.size w w') Exit.ret ⟨tm, []⟩ w' := bodyPost_ret (v := .int .i64 (evT V (.node 7 n pl len sub))) (by rw [← h4]; exact results_tmp rfl _ _ _) rfl ⟨rfl, hb⟩
        exact hfin
set_option maxRecDepth 40000 in
set_option maxHeartbeats 2000000 in
theorem eval_8 (n pl : Int) (len : Nat) (sub : Nat → T) (ih : ∀ j, EvalOK (sub j)) : EvalOK (.node 8 n pl len sub) := by
    obtain ⟨op, hop⟩ : ∃ op : Int, op = 8 := ⟨_, rfl⟩
    rw [← hop]
    have HOP := Lib.hid hop
    clear hop
    rintro w v va vl vc V ⟨a, cap, rfl, ho, hn, hp, hl, hnone, hat⟩ hV hmay hty
    have ho14 : op ≤ 14 := by
      rcases hty with h | h
      · have := (ty_int hmay h).1; omega
      · exact h.2
    have hty0 : tyT (.node op n pl len sub) ≠ 0 := by
      rcases hty with h | h
      · omega
      · exact h.1
    have hsub := ty_cmp hmay hty0 ho14
    obtain ⟨m1, m2, m3, m4⟩ := hmay
    have hlen2 : len ≤ 2 := by
      rw [m3]; unfold arity
      split
      · omega
      · split <;> omega
    have hV0 := hV.len_eq
    have IH := fun i (hi : i < len) => ih i
    have M3 := Lib.hid m3
    have M4 := Lib.hid m4
    have HSUB := Lib.hid hsub
    clear hty hty0 m3 m4 hsub IH
    have A := (Below.refl w.heap.size w).alloc (Nat.le_refl _) (.cells #[.int .i64 op, .int .i64 n, .int .i64 pl, .slice a len cap] 24)
    have pt : (w.alloc (.cells #[.int .i64 op, .int .i64 n, .int .i64 pl, .slice a len cap] 24)).heap[w.heap.size]? = some (.cells #[.int .i64 op, .int .i64 n, .int .i64 pl, .slice a len cap] 24 (0, 0)) := heap_alloc_new _ _
    go_enter Try.func32, Try.ntmps32
    go_upto_region 1 with fail
    obtain ⟨v1, hv⟩ : ∃ v, w.alloc (.cells #[.int .i64 op, .int .i64 n, .int .i64 pl, .slice a len cap] 24) = v := ⟨_, rfl⟩
    obtain ⟨gt, hg⟩ : ∃ g, w.heap.size = g := ⟨_, rfl⟩
    rw [hv] at pt A ⊢
    rw [hg] at pt ⊢
    have bt := A
    have hgw : w.heap.size ≤ gt := Nat.le_of_eq hg
    clear hv hg A
    have A := (Below.refl v1.heap.size v1).alloc (Nat.le_refl _) (.cells #[.int .i64 0, .int .i64 0] 57)
    have ps : (v1.alloc (.cells #[.int .i64 0, .int .i64 0] 57)).heap[v1.heap.size]? = some (.cells #[.int .i64 0, .int .i64 0] 57 (0, 0)) := heap_alloc_new _ _
    go_upto_region 2 with fail
    obtain ⟨v2, hv⟩ : ∃ v, v1.alloc (.cells #[.int .i64 0, .int .i64 0] 57) = v := ⟨_, rfl⟩
    have hgts : gt < v1.heap.size := (Array.getElem?_eq_some_iff.1 pt).1
    replace pt := (A.block gt hgts).trans pt
    replace bt := below_then bt A
    obtain ⟨gs, hg⟩ : ∃ g, v1.heap.size = g := ⟨_, rfl⟩
    have hgsw : w.heap.size ≤ gs := by omega
    rw [hv] at pt bt ps ⊢
    rw [hg] at ps hgts ⊢
    clear hv hg A
    have c3 : v2.cell? ⟨gt, 3, none⟩ = some (.slice a len cap) := cell_of_row _ _ 3 _ _ _ pt
    go_wp2_with fail
    clear c3
    go_loopw [13] (fun i w' => ∃ (j : Nat), j ≤ len ∧ i = .int .i64 (j : Nat) ∧ w'.heap[gt]? = some (.cells #[.int .i64 op, .int .i64 n, .int .i64 pl, .slice a len cap] 24 (0, 0)) ∧ w'.heap[gs]? = some (.cells #[.int .i64 (sideV V sub 0 j), .int .i64 (sideV V sub 1 j)] 57 (0, 0)) ∧ Below w.heap.size w w') (fun i _ => len - (intOf i).toNat)
    case atStart => exact ⟨0, Nat.zero_le _, rfl, pt, ps, bt⟩
    case round =>
      clear pt ps bt
      obtain ⟨j, hj, rfl, pt, ps, bt⟩ := hrel
      by_cases hjl : j < len
      · have f1 : decide (j < len) = true := by simpa using hjl
        obtain ⟨b, off, rfl, hlt, hi⟩ := hat.resolve_left (by omega)
        obtain ⟨o', n', p', a', l', c', g0, g1, g2, g3, g4⟩ := hi j hjl
        have y0 : wr.cell? ⟨b, off + j * 4, none⟩ = some (.int .i64 o') := (bt.cell (p := ⟨b, _, none⟩) hlt).trans g0
        have y1 : wr.cell? ⟨b, off + j * 4 + 1, none⟩ = some (.int .i64 n') := (bt.cell (p := ⟨b, _, none⟩) hlt).trans g1
        have y2 : wr.cell? ⟨b, off + j * 4 + 2, none⟩ = some (.int .i64 p') := (bt.cell (p := ⟨b, _, none⟩) hlt).trans g2
        have y3 : wr.cell? ⟨b, off + j * 4 + 3, none⟩ = some (.slice a' l' c') := (bt.cell (p := ⟨b, _, none⟩) hlt).trans g3
        have hj2 : j < 2 := by omega
        have m1' : (j : Int).tmod 2 = (j : Int) := by rw [Int.tmod_eq_emod_of_nonneg (by omega)]; omega
        have m2' : (j : Int) % 2 = (j : Int) := by omega
        go_upto_region 5 with (refine store_rec rfl 24 (.tmp 7) (.tmp 17) rfl wr.heap.size #[.int .i64 o', .int .i64 n', .int .i64 p', .slice a' l' c'] rfl rfl 24 _ (heap_alloc_new wr _) (by kernel_rfl) rfl (by simp [Value.oneCell']) ?_; intro w6 g6 z6 o6 b6)
        have b7 : Below wr.heap.size wr w6 := ((Below.refl _ _).alloc (Nat.le_refl _) _).trans b6
        have hgl : gs < wr.heap.size := (Array.getElem?_eq_some_iff.1 ps).1
        have ps6 := (b7.block gs hgl).trans ps
        have pt6 := (b7.block gt (Array.getElem?_eq_some_iff.1 pt).1).trans pt
        have bt6 := below_then bt b7
        obtain ⟨gx, hgx⟩ : ∃ g, wr.heap.size = g := ⟨_, rfl⟩
        rw [hgx] at g6 ⊢
        have d0 : w6.cell? ⟨gx, 0, none⟩ = some (.int .i64 o') := cell_of_row _ _ 0 _ _ _ g6
        have d1 : w6.cell? ⟨gx, 1, none⟩ = some (.int .i64 n') := cell_of_row _ _ 1 _ _ _ g6
        have d2 : w6.cell? ⟨gx, 2, none⟩ = some (.int .i64 p') := cell_of_row _ _ 2 _ _ _ g6
        have d3 : w6.cell? ⟨gx, 3, none⟩ = some (.slice a' l' c') := cell_of_row _ _ 3 _ _ _ g6
        clear y0 y1 y2 y3 pt ps z6 o6 b6 b7 hgx
        go_wp2_with fail
        refine (ih j _ _ va vl vc V (g4.mono bt6) (hV.mono bt6) (M4.out j hjl) (.inl (HSUB.out j hjl))).mono ?_
        rintro e w8 ⟨rfl, b8⟩
        have pt8 := (b8.block gt (Array.getElem?_eq_some_iff.1 pt6).1).trans pt6
        have ps8 := (b8.block gs (Array.getElem?_eq_some_iff.1 ps6).1).trans ps6
        have bt8 := below_then bt6 b8
        clear d0 d1 d2 d3 pt6 ps6 g6 g4
        obtain ⟨E, hE⟩ : ∃ E, evT V (sub j) = E := ⟨_, rfl⟩
        rw [hE]
        have HE := Lib.hid hE
        clear hE
        have s0 : w8.cell? ⟨gs, 0, none⟩ = some (.int .i64 (sideV V sub 0 j)) := cell_of_row _ _ 0 _ _ _ ps8
        have s1 : w8.cell? ⟨gs, 1, none⟩ = some (.int .i64 (sideV V sub 1 j)) := cell_of_row _ _ 1 _ _ _ ps8
        have fz0 := frozen_of_row w8 gs 0 _ _ ps8
        have fz1 := frozen_of_row w8 gs 1 _ _ ps8
        have ptS : ∀ i v, (w8.setCell ⟨gs, i, none⟩ v).heap[gt]? = some (.cells #[.int .i64 op, .int .i64 n, .int .i64 pl, .slice (some ⟨b, off, none⟩) len cap] 24 (0, 0)) := fun i v => by rw [Below.heap_setCell _ _ _ _ (show gt ≠ gs by omega)]; exact pt8
        have btS : ∀ i v, Below w.heap.size w (w8.setCell ⟨gs, i, none⟩ v) := fun i v => bt8.setCell hgsw _
        have HPT := Lib.hid ptS
        have HBT := Lib.hid btS
        clear ptS btS pt8 bt8
        rcases (by omega : j = 0 ∨ j = 1) with rfl | rfl
        · have q1 := Joins.block_setCell (i := 0) ps8 (.int .i64 E)
          have r1 : sideV V sub 0 1 = E := by unfold sideV; rw [if_pos (by decide)]; exact HE.out
          have HR1 := Lib.hid r1
          have HQ1 := Lib.hid q1
          clear r1 q1
          go_wp2_with fail
          exact ⟨⟨1, by omega, rfl, HPT.out _ _, by rw [HR1.out]; exact HQ1.out, HBT.out _ _⟩, by simp [intOf]; omega⟩
        · have q1 := Joins.block_setCell (i := 1) ps8 (.int .i64 E)
          have r1 : sideV V sub 1 2 = E := by unfold sideV; rw [if_pos (by decide)]; exact HE.out
          have HR1 := Lib.hid r1
          have HQ1 := Lib.hid q1
          clear r1 q1
          go_wp2_with fail
          exact ⟨⟨2, by omega, rfl, HPT.out _ _, by rw [HR1.out]; exact HQ1.out, HBT.out _ _⟩, by simp [intOf]; omega⟩
      · have f1 : decide (j < len) = false := by simpa using hjl
        obtain rfl : len = j := by omega
        obtain ⟨xa, hxa⟩ : ∃ x, sideV V sub 0 len = x := ⟨_, rfl⟩
        obtain ⟨xb, hxb⟩ : ∃ x, sideV V sub 1 len = x := ⟨_, rfl⟩
        rw [hxa, hxb] at ps
        have hev : evT V (.node op n pl len sub) = evOp V op n xa xb := by rw [← hxa, ← hxb]; rfl
        have HEV := Lib.hid hev
        have a0 : ∀ z : Later wr.heap.size wr, z.w.cell? ⟨gs, 0, none⟩ = some (.int .i64 xa) := fun z => cell_of_row _ _ 0 _ _ _ ((z.below.block gs (Array.getElem?_eq_some_iff.1 ps).1).trans ps)
        have a1 : ∀ z : Later wr.heap.size wr, z.w.cell? ⟨gs, 1, none⟩ = some (.int .i64 xb) := fun z => cell_of_row _ _ 1 _ _ _ ((z.below.block gs (Array.getElem?_eq_some_iff.1 ps).1).trans ps)
        clear hxa hxb hev HSUB M4 ih hat
        go_wp2_with fail
        refine wp_region_later wr.heap.size wr (by kernel_rfl) (by kernel_rfl) (Below.refl _ _) ?_
        repeat (go_big_quiet_step (fail))
        refine wpQuiet_nil ?_
        intro _ hlat
        obtain ⟨z, rfl⟩ := hlat
        have pz := (z.below.block gt (Array.getElem?_eq_some_iff.1 pt).1).trans pt
        have bz := below_then bt z.below
        have hVz := hV.mono bz
        have c0 : z.w.cell? ⟨gt, 0, none⟩ = some (.int .i64 op) := cell_of_row _ _ 0 _ _ _ pz
        have c1 : z.w.cell? ⟨gt, 1, none⟩ = some (.int .i64 n) := cell_of_row _ _ 1 _ _ _ pz
        clear a0 a1 ps pt bt f1 hj
        have hop := HOP.out
        subst hop
        clear HOP
        go_upto_block 19 with fail
        refine wp_mono (Q := EvR V (.node 8 n pl len sub) w) ?_ ?_
        ·
          refine block_skip (fun e a w h => by rw [h.1]; simp) (seq_skip (fun e a w h => by rw [h.1]; simp) ?_)
          refine block_skip (fun e a w h => by rw [h.1]; simp) (seq_skip (fun e a w h => by rw [h.1]; simp) ?_)
          refine block_skip (fun e a w h => by rw [h.1]; simp) (seq_skip (fun e a w h => by rw [h.1]; simp) ?_)
          refine block_skip (fun e a w h => by rw [h.1]; simp) (seq_skip (fun e a w h => by rw [h.1]; simp) ?_)
          refine block_skip (fun e a w h => by rw [h.1]; simp) (seq_then (S := (SwS (.slice va vl vc) gt z.w (.int .i64 (xa)) (.int .i64 (xb)))) ?_ ?_)
          ·
            refine block_hit ?_
            refine seq_skip (fun e a w h => by rw [h.1]; simp) ?_
            refine block_skip (fun e a w h => by rw [h.1]; simp) (seq_skip (fun e a w h => by rw [h.1]; simp) ?_)
            refine block_skip (fun e a w h => by rw [h.1]; simp) (seq_skip (fun e a w h => by rw [h.1]; simp) ?_)
            refine block_skip (fun e a w h => by rw [h.1]; simp) (seq_skip (fun e a w h => by rw [h.1]; simp) ?_)
            refine block_skip (fun e a w h => by rw [h.1]; simp) (seq_skip (fun e a w h => by rw [h.1]; simp) ?_)
            refine block_skip (fun e a w h => by rw [h.1]; simp) (seq_skip (fun e a w h => by rw [h.1]; simp) ?_)
            refine block_skip (fun e a w h => by rw [h.1]; simp) (seq_skip (fun e a w h => by rw [h.1]; simp) ?_)
            refine block_skip (fun e a w h => by rw [h.1]; simp) (seq_skip (fun e a w h => by rw [h.1]; simp) ?_)
            refine block_skip (fun e a w h => by rw [h.1]; simp) (seq_skip (fun e a w h => by rw [h.1]; simp) ?_)
            refine block_skip (fun e a w h => by rw [h.1]; simp) (seq_skip (fun e a w h => by rw [h.1]; simp) ?_)
            refine block_skip (fun e a w h => by rw [h.1]; simp) (seq_skip (fun e a w h => by rw [h.1]; simp) ?_)
            refine wp_mono (Q := fun e a w' => e = Exit.exit 14 ∧ a.defers = [] ∧ a.tmps.size = 122 ∧ a.tmps.getD 1 undef = .slice va vl vc ∧ a.tmps.getD 2 undef = .pointer (some ⟨gt, 0, none⟩) ∧ a.tmps.getD 8 undef = .int .i64 xa ∧ a.tmps.getD 9 undef = .int .i64 xb ∧ z.w = w') ?_ (fun e a w' h => ⟨h.1, h.2⟩)
            go_wp2_with fail
            all_goals exact ⟨rfl, rfl, rfl, rfl, rfl, rfl, rfl, rfl⟩
          ·
            rintro a w' hs
            obtain ⟨U, rfl, rfl⟩ := hs.frame
            clear hs
            unfold EvR
            rw [HEV.out, ev8]
            have BZ := Lib.hid bz
            go_wp2_with fail
            refine (truth_any _ _).mono ?_
            rintro e w9 ⟨rfl, b9⟩
            have H10 := Lib.hid (below_then bz b9)
            go_wp2_with fail
            all_goals first | exact ⟨by simp [b01, t01], H10.out⟩ | exact ⟨rfl, rfl, by simp [b01, t01], H10.out⟩
        rintro e ⟨tm, df⟩ w' ⟨rfl, hdf, h4, hb⟩
        simp only [] at hdf h4
        subst hdf
        have hfin : bodyPost Try.prog Try.f32 (fun e w' => e = .returned (.int .i64 (evT V (.node 8 n pl len sub))) ∧ Below w.heap.size w w') Exit.ret ⟨tm, []⟩ w' := bodyPost_ret (v := .int .i64 (evT V (.node 8 n pl len sub))) (by rw [← h4]; exact results_tmp rfl _ _ _) rfl ⟨rfl, hb⟩
        exact hfin
end Go.Proofs.Ytogdfjcgcdbnaaa
