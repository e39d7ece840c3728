/- The document's All, kinds 17, 18 (by gen17t.py). -/
import Derived.Test.YtdeanjphcggbpaaSemT0
namespace Go.Proofs.Ytdeanjphcggbpaa
open Go.RowKit
set_option linter.unusedVariables false
set_option linter.unusedSimpArgs false
set_option maxRecDepth 20000 in
set_option maxHeartbeats 4000000 in
theorem allr_17 (n pl : Int) (len : Nat) (sub : Nat → T) (ih : ∀ j, AllR (sub j)) (hty : tyT (.node 17 n pl len sub) ≠ 2) : AllR (.node 17 n pl len sub) := by
  intro w v wa wn wk l row ht hr hf hwn hl
  have HT0 := ht
  obtain ⟨a, cap, rfl, ho, hn, hp, hln, hnone, hat⟩ := ht
  have hsub := ty_fm hf (by decide)
  obtain ⟨_, _, m3, _⟩ := hf.1
  obtain rfl : len = 2 := by rw [m3]; rfl
  clear m3 hf ho hln
  obtain ⟨b, off, rfl, hlt, hi⟩ := hat.resolve_left (by decide)
  obtain ⟨o0, n0, p0, a0, l0, c0, g00, g01, g02, g03, t0⟩ := hi 0 (by decide)
  have y00 : w.cell? ⟨b, off, none⟩ = some (.int .i64 o0) := g00
  have y01 : w.cell? ⟨b, off + 1, none⟩ = some (.int .i64 n0) := g01
  have y02 : w.cell? ⟨b, off + 2, none⟩ = some (.int .i64 p0) := g02
  have y03 : w.cell? ⟨b, off + 3, none⟩ = some (.slice a0 l0 c0) := g03
  have A0 : ∀ z : World, Below w.heap.size w z → Calls Try.prog 11 #[.agg #[.int .i64 o0, .int .i64 n0, .int .i64 p0, .slice a0 l0 c0], .agg #[.slice wa wn wk, .int .i64 (l : Nat)]] z fun e w' => BoolsOut z wn (hT wn l row (sub 0)) e w' ∧ Below z.heap.size z w' := fun z hz => ih 0 z _ wa wn wk l row (t0.mono hz) (hr.mono hz) (hsub 0 (by decide)) hwn hl
  obtain ⟨o1, n1, p1, a1, l1, c1, g10, g11, g12, g13, t1⟩ := hi 1 (by decide)
  have y10 : w.cell? ⟨b, off + 4, none⟩ = some (.int .i64 o1) := g10
  have y11 : w.cell? ⟨b, off + 5, none⟩ = some (.int .i64 n1) := g11
  have y12 : w.cell? ⟨b, off + 6, none⟩ = some (.int .i64 p1) := g12
  have y13 : w.cell? ⟨b, off + 7, none⟩ = some (.slice a1 l1 c1) := g13
  have A1 : ∀ z : World, Below w.heap.size w z → Calls Try.prog 11 #[.agg #[.int .i64 o1, .int .i64 n1, .int .i64 p1, .slice a1 l1 c1], .agg #[.slice wa wn wk, .int .i64 (l : Nat)]] z fun e w' => BoolsOut z wn (hT wn l row (sub 1)) e w' ∧ Below z.heap.size z w' := fun z hz => ih 1 z _ wa wn wk l row (t1.mono hz) (hr.mono hz) (hsub 1 (by decide)) hwn hl
  clear hsub hi hat ih g00 g01 g02 g03 g10 g11 g12 g13
  have hmk := run_make_row' (P := Try.prog) 32 4 (.bool false) 1 Try.underlying32 Try.info_bool rfl .i64 .i64 wn (by omega) (by omega)
  obtain ⟨pe, pw, bt⟩ := heap2 w #[.int .i64 17, .int .i64 n, .int .i64 pl, .slice (some ⟨b, off, none⟩) 2 cap] #[.slice wa wn wk, .int .i64 (l : Nat)] 24 27
  go_enter Try.func11, Try.ntmps11
  go_upto_region 1 with fail
  obtain ⟨v2, hv⟩ : ∃ v, (w.alloc (.cells #[.int .i64 17, .int .i64 n, .int .i64 pl, .slice (some ⟨b, off, none⟩) 2 cap] 24)).alloc (.cells #[.slice wa wn wk, .int .i64 (l : Nat)] 27) = v := ⟨_, rfl⟩
  rw [hv] at pe pw bt ⊢
  obtain ⟨gw, hgw⟩ : ∃ g, w.heap.size + 1 = g := ⟨_, rfl⟩
  rw [hgw] at pw ⊢
  obtain ⟨ge, hge⟩ : ∃ g, w.heap.size = g := ⟨_, rfl⟩
  rw [hge] at pe ⊢
  have hbe : b < ge := hge ▸ hlt
  have hbw : b < gw := by omega
  clear hge hgw hv
  have w0 : v2.cell? ⟨gw, 0, none⟩ = some (.slice wa wn wk) := cell_of_row _ _ 0 _ _ _ pw
  have w1 : v2.cell? ⟨gw, 1, none⟩ = some (.int .i64 (l : Nat)) := cell_of_row _ _ 1 _ _ _ pw
  obtain ⟨hm0, bm⟩ := made1 v2 wn
  go_upto_region 3 with fail
  obtain ⟨v3, hv⟩ : ∃ v, v2.alloc (.cells (madeCells #[Value.bool false] wn) 4) = v := ⟨_, rfl⟩
  have hel := (Array.getElem?_eq_some_iff.1 pe).1
  have hwl := (Array.getElem?_eq_some_iff.1 pw).1
  obtain ⟨gs, hg⟩ : ∃ g, v2.heap.size = g := ⟨_, rfl⟩
  have hgs : w.heap.size ≤ gs := hg ▸ bt.size
  replace bt := below_then bt bm
  replace pe := row_bel bm pe
  replace pw := row_bel bm pw
  rw [hv] at hm0 bt pe pw ⊢
  rw [hg] at hm0 hel hwl ⊢
  clear hv hg bm w0 w1
  have e0 : v3.cell? ⟨ge, 0, none⟩ = some (.int .i64 17) := cell_of_row _ _ 0 _ _ _ pe
  have e1 : v3.cell? ⟨ge, 1, none⟩ = some (.int .i64 n) := cell_of_row _ _ 1 _ _ _ pe
  have e2 : v3.cell? ⟨ge, 2, none⟩ = some (.int .i64 pl) := cell_of_row _ _ 2 _ _ _ pe
  have e3 : v3.cell? ⟨ge, 3, none⟩ = some (.slice (some ⟨b, off, none⟩) 2 cap) := cell_of_row _ _ 3 _ _ _ pe
  go_wp2_with fail
  refine (lit_any _ _ _ (HT0.mono bt)).mono ?_
  rintro e w4 ⟨rfl, b4⟩
  rw [decide_eq_false hty]
  clear e0 e1 e2 e3 HT0 hty
  replace pe := row_bel b4 pe
  replace pw := row_bel b4 pw
  replace hm0 := hm0.mono b4
  replace bt := below_then bt b4
  go_upto_region 11 with fail
  have bk : Below w4.heap.size w4 w4.drew := (Below.refl _ _).drew
  have q0 : w4.drew.cell? ⟨ge, 3, none⟩ = some (.slice (some ⟨b, off, none⟩) 2 cap) := cell_of_row _ _ 3 _ _ _ pe
  have q1 : w4.drew.cell? ⟨gw, 0, none⟩ = some (.slice wa wn wk) := cell_of_row _ _ 0 _ _ _ pw
  have q2 : w4.drew.cell? ⟨gw, 1, none⟩ = some (.int .i64 (l : Nat)) := cell_of_row _ _ 1 _ _ _ pw
  have q3 : w4.drew.cell? ⟨b, off, none⟩ = some (.int .i64 o0) := (bt.cell (p := ⟨b, _, none⟩) hlt).trans y00
  have q4 : w4.drew.cell? ⟨b, off + 1, none⟩ = some (.int .i64 n0) := (bt.cell (p := ⟨b, _, none⟩) hlt).trans y01
  have q5 : w4.drew.cell? ⟨b, off + 2, none⟩ = some (.int .i64 p0) := (bt.cell (p := ⟨b, _, none⟩) hlt).trans y02
  have q6 : w4.drew.cell? ⟨b, off + 3, none⟩ = some (.slice a0 l0 c0) := (bt.cell (p := ⟨b, _, none⟩) hlt).trans y03
  have ha := A0 w4.drew (below_then bt bk)
  go_region_held3 (fun w' => w'.cell? ⟨ge, 3, none⟩ = some (.slice (some ⟨b, off, none⟩) 2 cap) ∧ w'.cell? ⟨gw, 0, none⟩ = some (.slice wa wn wk) ∧ w'.cell? ⟨gw, 1, none⟩ = some (.int .i64 (l : Nat)) ∧ w'.cell? ⟨b, off, none⟩ = some (.int .i64 o0) ∧ w'.cell? ⟨b, off + 1, none⟩ = some (.int .i64 n0) ∧ w'.cell? ⟨b, off + 2, none⟩ = some (.int .i64 p0) ∧ w'.cell? ⟨b, off + 3, none⟩ = some (.slice a0 l0 c0))
    (refine ⟨?_, ?_, ?_, ?_, ?_, ?_, ?_⟩ <;> with_reducible assumption)
    (first | (go_at_call 11; ((with_reducible refine ha.mono ?_); rintro e ws ⟨⟨ga, rfl, hhga, rga⟩, bz⟩; have zz := cell_next bz q0; clear q0; have q0 := zz; clear zz; have zz := cell_next bz q1; clear q1; have q1 := zz; clear zz; have zz := cell_next bz q2; clear q2; have q2 := zz; clear zz; have zz := cell_next bz q3; clear q3; have q3 := zz; clear zz; have zz := cell_next bz q4; clear q4; have q4 := zz; clear zz; have zz := cell_next bz q5; clear q5; have q5 := zz; clear zz; have zz := cell_next bz q6; clear q6; have q6 := zz; clear zz)))
  clear q0 q1 q2 q3 q4 q5 q6 ha
  have bz2 : Below w4.heap.size w4 ws := below_then bk bz
  replace pe := row_bel bz2 pe
  replace pw := row_bel bz2 pw
  have hsl0 := World.rowIs.lt hm0
  replace hm0 := hm0.mono bz2
  have hsa : gs < ga := Nat.lt_of_lt_of_le hsl0 (Nat.le_trans bk.size hhga)
  replace bt := below_then bt bz2
  clear bk bz bz2
  obtain ⟨w5, hws⟩ : ∃ x, ws = x := ⟨_, rfl⟩
  subst hws
  obtain ⟨hmb, bm⟩ := made1 ws wn
  have e3 : ws.cell? ⟨ge, 3, none⟩ = some (.slice (some ⟨b, off, none⟩) 2 cap) := cell_of_row _ _ 3 _ _ _ pe
  go_upto_region 13 with fail
  obtain ⟨v6, hv⟩ : ∃ v, ws.alloc (.cells (madeCells #[Value.bool false] wn) 4) = v := ⟨_, rfl⟩
  have hgal := World.rowIs.lt rga
  replace pe := row_bel bm pe
  replace pw := row_bel bm pw
  replace hm0 := hm0.mono bm
  replace rga := rga.mono bm
  replace bt := below_then bt bm
  obtain ⟨gb, hg⟩ : ∃ g, ws.heap.size = g := ⟨_, rfl⟩
  have hsb : gs < gb := by omega
  rw [hv] at hmb pe pw hm0 rga bt ⊢
  rw [hg] at hmb ⊢
  clear hv hg bm e3
  have e3 : v6.cell? ⟨ge, 3, none⟩ = some (.slice (some ⟨b, off, none⟩) 2 cap) := cell_of_row _ _ 3 _ _ _ pe
  go_upto_region 14 with fail
  clear e3 hmb hsb
  have bk : Below v6.heap.size v6 v6.drew := (Below.refl _ _).drew
  have q0 : v6.drew.cell? ⟨ge, 3, none⟩ = some (.slice (some ⟨b, off, none⟩) 2 cap) := cell_of_row _ _ 3 _ _ _ pe
  have q1 : v6.drew.cell? ⟨gw, 0, none⟩ = some (.slice wa wn wk) := cell_of_row _ _ 0 _ _ _ pw
  have q2 : v6.drew.cell? ⟨gw, 1, none⟩ = some (.int .i64 (l : Nat)) := cell_of_row _ _ 1 _ _ _ pw
  have q3 : v6.drew.cell? ⟨b, off + 4, none⟩ = some (.int .i64 o1) := (bt.cell (p := ⟨b, _, none⟩) hlt).trans y10
  have q4 : v6.drew.cell? ⟨b, off + 5, none⟩ = some (.int .i64 n1) := (bt.cell (p := ⟨b, _, none⟩) hlt).trans y11
  have q5 : v6.drew.cell? ⟨b, off + 6, none⟩ = some (.int .i64 p1) := (bt.cell (p := ⟨b, _, none⟩) hlt).trans y12
  have q6 : v6.drew.cell? ⟨b, off + 7, none⟩ = some (.slice a1 l1 c1) := (bt.cell (p := ⟨b, _, none⟩) hlt).trans y13
  have ha := A1 v6.drew (below_then bt bk)
  go_region_held3 (fun w' => w'.cell? ⟨ge, 3, none⟩ = some (.slice (some ⟨b, off, none⟩) 2 cap) ∧ w'.cell? ⟨gw, 0, none⟩ = some (.slice wa wn wk) ∧ w'.cell? ⟨gw, 1, none⟩ = some (.int .i64 (l : Nat)) ∧ w'.cell? ⟨b, off + 4, none⟩ = some (.int .i64 o1) ∧ w'.cell? ⟨b, off + 5, none⟩ = some (.int .i64 n1) ∧ w'.cell? ⟨b, off + 6, none⟩ = some (.int .i64 p1) ∧ w'.cell? ⟨b, off + 7, none⟩ = some (.slice a1 l1 c1))
    (refine ⟨?_, ?_, ?_, ?_, ?_, ?_, ?_⟩ <;> with_reducible assumption)
    (first | (go_at_call 11; ((with_reducible refine ha.mono ?_); rintro e ws ⟨⟨gb2, rfl, hhgb2, rgb2⟩, bz⟩; have zz := cell_next bz q0; clear q0; have q0 := zz; clear zz; have zz := cell_next bz q1; clear q1; have q1 := zz; clear zz; have zz := cell_next bz q2; clear q2; have q2 := zz; clear zz; have zz := cell_next bz q3; clear q3; have q3 := zz; clear zz; have zz := cell_next bz q4; clear q4; have q4 := zz; clear zz; have zz := cell_next bz q5; clear q5; have q5 := zz; clear zz; have zz := cell_next bz q6; clear q6; have q6 := zz; clear zz)))
  clear q0 q1 q2 q3 q4 q5 q6 ha
  have bz2 : Below v6.heap.size v6 ws := below_then bk bz
  have hsb : gs < gb2 := Nat.lt_of_lt_of_le (World.rowIs.lt hm0) (Nat.le_trans bk.size hhgb2)
  replace pe := row_bel bz2 pe
  replace pw := row_bel bz2 pw
  replace hm0 := hm0.mono bz2
  replace rga := rga.mono bz2
  replace bt := below_then bt bz2
  clear bk bz bz2
  obtain ⟨v7, hv7⟩ : ∃ x, ws = x := ⟨_, rfl⟩
  rw [hv7] at pe pw hm0 rga rgb2 bt ⊢
  have rgb := rgb2
  clear hv7 rgb2
  obtain ⟨hy, hno, hoo, bm⟩ := made3 v7 wn
  go_upto_region 19 with fail
  obtain ⟨v8, hv⟩ : ∃ v, ((v7.alloc (.cells (madeCells #[Value.bool false] wn) 4)).alloc (.cells (madeCells #[Value.bool false] wn) 4)).alloc (.cells (madeCells #[Value.bool false] wn) 4) = v := ⟨_, rfl⟩
  have hgal := World.rowIs.lt rga
  have hgbl := World.rowIs.lt rgb
  have hgsl := World.rowIs.lt hm0
  have hgel := (Array.getElem?_eq_some_iff.1 pe).1
  have hgwl := (Array.getElem?_eq_some_iff.1 pw).1
  replace pe := row_bel bm pe
  replace pw := row_bel bm pw
  replace hm0 := hm0.mono bm
  replace rga := rga.mono bm
  replace rgb := rgb.mono bm
  have hwy := bt.size
  replace bt := below_then bt bm
  rw [hv] at hy hno hoo pe pw hm0 rga rgb bt ⊢
  obtain ⟨go, hgo⟩ : ∃ g, v7.heap.size + 1 + 1 = g := ⟨_, rfl⟩
  obtain ⟨gn, hgn⟩ : ∃ g, v7.heap.size + 1 = g := ⟨_, rfl⟩
  obtain ⟨gy, hgy⟩ : ∃ g, v7.heap.size = g := ⟨_, rfl⟩
  rw [hgo] at hoo ⊢
  rw [hgn] at hno ⊢
  rw [hgy] at hy hgal hgbl hgsl hgel hgwl hwy ⊢
  have hyn : gy < gn := by omega
  have hno' : gn < go := by omega
  have dyo : gy ≠ go := by omega
  have dno : gn ≠ go := by omega
  have lyo : gy ≤ go := by omega
  clear hv hgo hgn hgy bm
  obtain ⟨fa, hfa⟩ : ∃ f, (hT wn l row (sub 0)) = f := ⟨_, rfl⟩
  have hfb : ∃ f, (hT wn l row (sub 1)) = f := ⟨_, rfl⟩
  obtain ⟨fb, hfb⟩ := hfb
  have hlaw : ∀ i, hT wn l row (.node 17 n pl 2 sub) i = (fa i || fb i) := fun i => by rw [hT_17]; rw [hfa, hfb]
  rw [hfa] at rga
  have RB0 : BoolsAt v8 gb2 wn fb := by
    rw [← hfb]
    exact rgb
  have HB := Lib.hid hlaw
  have HA := Lib.hid rga
  have HBB := Lib.hid RB0
  have HY := Lib.hid ((hy.congr fun i hi => by simp) : v8.rowIs gy 4 wn fun i => .bool (if i < 0 then true else false))
  have HN := Lib.hid ((hno.congr fun i hi => by simp) : v8.rowIs gn 4 wn fun i => .bool (if i < 0 then !fa i else false))
  have HO := Lib.hid ((hoo.congr fun i hi => by simp) : v8.rowIs go 4 wn fun i => .bool (if i < 0 then !fb i else false))
  have B0 := Below.refl gy v8
  have BT8 := Lib.hid bt
  have HM0 := Lib.hid hm0
  have PE := Lib.hid pe
  have PW := Lib.hid pw
  clear rga rgb RB0 hy hno hoo hm0 pe pw bt hfa hfb hlaw
  go_loopw [15] (fun i w' => ∃ j : Nat, j ≤ wn ∧ i = .int .i64 (j : Nat) ∧ Hid (w'.rowIs gy 4 wn fun i => .bool (if i < j then true else false)) ∧ Hid (w'.rowIs gn 4 wn fun i => .bool (if i < j then !fa i else false)) ∧ Hid (w'.rowIs go 4 wn fun i => .bool (if i < j then !fb i else false)) ∧ Below gy v8 w') (fun i _ => wn - (intOf i).toNat)
  case atStart => exact ⟨0, Nat.zero_le _, rfl, HY, HN, HO, B0⟩
  case round =>
    clear HY HN HO B0
    obtain ⟨j, hj, rfl, HY, HN, HO, hb⟩ := hrel
    by_cases hjn : j < wn
    · have f1 : decide (j < wn) = true := by simpa using hjn
      have hyc := HY.out.cell hjn
      have hyf := HY.out.frozen j
      go_upto_region 22 with fail
      obtain ⟨w9, hw9⟩ : ∃ x, wr.setCell ⟨gy, j, none⟩ (.bool true) = x := ⟨_, rfl⟩
      have HY2 := Lib.hid ((HY.out.set j (.bool true)).congr fun i hi => upto_set (fun _ => true) j true rfl i)
      have oth : ∀ k, k ≠ gy → w9.heap[k]? = wr.heap[k]? := fun k hk => by rw [← hw9]; exact Below.heap_setCell _ _ _ _ hk
      have bb : Below gy v8 w9 := by rw [← hw9]; exact hb.setCell (Nat.le_refl _) _
      rw [hw9] at HY2 ⊢
      have HN2 := Lib.hid (HN.out.of_block (oth gn (by omega)))
      have HO2 := Lib.hid (HO.out.of_block (oth go (by omega)))
      clear hw9 oth hyc hyf HY HN HO hb
      have hac := (World.rowIs.of_block HA.out (bb.block ga hgal)).cell hjn
      have hnc := HN2.out.cell hjn
      have hnf := HN2.out.frozen j
      go_upto_region 23 with fail
      obtain ⟨w10, hw10⟩ : ∃ x, w9.setCell ⟨gn, j, none⟩ (.bool (!fa j)) = x := ⟨_, rfl⟩
      have HN3 := Lib.hid ((HN2.out.set j (.bool (!fa j))).congr fun i hi => upto_set (fun i => !fa i) j _ rfl i)
      have oth : ∀ k, k ≠ gn → w10.heap[k]? = w9.heap[k]? := fun k hk => by rw [← hw10]; exact Below.heap_setCell _ _ _ _ hk
      have bb2 : Below gy v8 w10 := by rw [← hw10]; exact bb.setCell (Nat.le_of_lt hyn) _
      rw [hw10] at HN3 ⊢
      have HY3 := Lib.hid (HY2.out.of_block (oth gy (by omega)))
      have HO3 := Lib.hid (HO2.out.of_block (oth go (by omega)))
      clear hw10 oth hac hnc hnf HY2 HN2 HO2 bb
      have hac := (World.rowIs.of_block HBB.out (bb2.block gb2 hgbl)).cell hjn
      have hnc := HO3.out.cell hjn
      have hnf := HO3.out.frozen j
      go_wp2_with fail
      exact ⟨⟨j + 1, by omega, by simp, Lib.hid (HY3.out.of_block (Below.heap_setCell _ _ _ _ dyo)), Lib.hid (HN3.out.of_block (Below.heap_setCell _ _ _ _ dno)), Lib.hid ((HO3.out.set j (.bool (!fb j))).congr fun i hi => upto_set (fun i => !fb i) j _ rfl i), bb2.setCell lyo _⟩, by simp [intOf]; omega⟩
    · have f1 : decide (j < wn) = false := by simpa using hjn
      obtain rfl : j = wn := by omega
      clear f1 hj
      have RY := Lib.hid ((HY.out.congr fun i hi => by rw [if_pos hi]) : BoolsAt wr gy j fun _ => true)
      have RN := Lib.hid ((HN.out.congr fun i hi => by rw [if_pos hi]) : BoolsAt wr gn j fun i => !fa i)
      have RO := Lib.hid ((HO.out.congr fun i hi => by rw [if_pos hi]) : BoolsAt wr go j fun i => !fb i)
      have RA := Lib.hid (World.rowIs.of_block HA.out (hb.block ga hgal) : BoolsAt wr ga j fa)
      have RB := Lib.hid (World.rowIs.of_block HBB.out (hb.block gb2 hgbl) : BoolsAt wr gb2 j fb)
      have HM := Lib.hid ((World.rowIs.of_block HM0.out (hb.block gs hgsl)).congr fun i hi => by simp : wr.rowIs gs 4 j fun i => .bool (if i < 0 then fa i || fb i else false))
      have pe := (hb.block ge hgel).trans PE.out
      have pw := (hb.block gw hgwl).trans PW.out
      have HE0 := Lib.hid (cell_of_row _ _ 0 _ _ _ pe : wr.cell? ⟨ge, 0, none⟩ = some (.int .i64 17))
      have HW0 := Lib.hid (cell_of_row _ _ 0 _ _ _ pw : wr.cell? ⟨gw, 0, none⟩ = some (.slice wa j wk))
      have HW1 := Lib.hid (cell_of_row _ _ 1 _ _ _ pw : wr.cell? ⟨gw, 1, none⟩ = some (.int .i64 (l : Nat)))
      have K0 := KeepB.refl gs wr
      have BM := Lib.hid (BT8.out.trans (hb.mono hwy))
      have N1 : ga ≠ gs ∧ gb2 ≠ gs ∧ gy ≠ gs ∧ gn ≠ gs ∧ go ≠ gs ∧ ge ≠ gs ∧ gw ≠ gs := by omega
      have HN1 := Lib.hid N1
      clear HY HN HO HA HBB HM0 PE PW BT8 hb pe pw N1
      go_upto_region 25 with fail
      obtain ⟨wq, hwq⟩ : ∃ x, wr = x := ⟨_, rfl⟩
      rw [hwq] at RY RN RO RA RB HM HE0 HW0 HW1 K0 BM ⊢
      clear hwq
      go_loopw [16] (fun i w' => ∃ q : Nat, q ≤ j ∧ i = .int .i64 (q : Nat) ∧ Hid (w'.rowIs gs 4 j fun i => .bool (if i < q then fa i || fb i else false)) ∧ KeepB gs wq w' ∧ Hid (Below w.heap.size w w')) (fun i _ => j - (intOf i).toNat)
      case atStart => exact ⟨0, Nat.zero_le _, rfl, HM, K0, BM⟩
      case round =>
        clear HM K0 BM
        obtain ⟨q, hq, rfl, HM, KB, BT⟩ := hrel
        by_cases hqn : q < j
        · have f1 : decide (q < j) = true := by simpa using hqn
          obtain ⟨na, nb, ny, nn, no, ne, nw⟩ := HN1.out
          have e0 := KB.cell HE0.out ne
          have k1 := World.rowIs.cell (KB.bools RA.out na) hqn
          have k2 := World.rowIs.cell (KB.bools RB.out nb) hqn
          have hcell := HM.out.cell hqn
          have hfr := HM.out.frozen q
          have HB2 := Lib.hid (rfl : (fun i => fa i || fb i) q = (fun i => fa i || fb i) q)
          obtain ⟨X, hX⟩ : ∃ X, fa q = X := ⟨_, rfl⟩
          obtain ⟨Y, hY⟩ : ∃ Y, fb q = Y := ⟨_, rfl⟩
          rw [hX] at k1
          rw [hY] at k2
          have HX := Lib.hid (And.intro hX hY)
          clear hX hY na nb ny nn no ne nw HB2
          cases X <;> cases Y
          all_goals
            go_wp2_with fail
            refine ⟨⟨q + 1, by omega, by simp, Lib.hid ((HM.out.set q _).congr fun i hi => upto_set (fun i => fa i || fb i) q _ (by simp [HX.out.1, HX.out.2]) i), KB.set q _, Lib.hid (BT.out.setCell hgs _)⟩, by simp [intOf]; omega⟩
        · have f1 : decide (q < j) = false := by simpa using hqn
          obtain rfl : q = j := by omega
          go_wp2_with fail
          go_ret
          exact ⟨⟨gs, rfl, hgs, HM.out.congr fun i hi => by rw [if_pos hi, HB.out i]⟩, BT.out⟩
set_option maxRecDepth 20000 in
set_option maxHeartbeats 4000000 in
theorem allr_18 (n pl : Int) (len : Nat) (sub : Nat → T) (ih : ∀ j, AllR (sub j)) (hty : tyT (.node 18 n pl len sub) ≠ 2) : AllR (.node 18 n pl len sub) := by
  intro w v wa wn wk l row ht hr hf hwn hl
  have HT0 := ht
  obtain ⟨a, cap, rfl, ho, hn, hp, hln, hnone, hat⟩ := ht
  have hsub := ty_fm hf (by decide)
  obtain ⟨_, _, m3, _⟩ := hf.1
  obtain rfl : len = 2 := by rw [m3]; rfl
  clear m3 hf ho hln
  obtain ⟨b, off, rfl, hlt, hi⟩ := hat.resolve_left (by decide)
  obtain ⟨o0, n0, p0, a0, l0, c0, g00, g01, g02, g03, t0⟩ := hi 0 (by decide)
  have y00 : w.cell? ⟨b, off, none⟩ = some (.int .i64 o0) := g00
  have y01 : w.cell? ⟨b, off + 1, none⟩ = some (.int .i64 n0) := g01
  have y02 : w.cell? ⟨b, off + 2, none⟩ = some (.int .i64 p0) := g02
  have y03 : w.cell? ⟨b, off + 3, none⟩ = some (.slice a0 l0 c0) := g03
  have A0 : ∀ z : World, Below w.heap.size w z → Calls Try.prog 11 #[.agg #[.int .i64 o0, .int .i64 n0, .int .i64 p0, .slice a0 l0 c0], .agg #[.slice wa wn wk, .int .i64 (l : Nat)]] z fun e w' => BoolsOut z wn (hT wn l row (sub 0)) e w' ∧ Below z.heap.size z w' := fun z hz => ih 0 z _ wa wn wk l row (t0.mono hz) (hr.mono hz) (hsub 0 (by decide)) hwn hl
  obtain ⟨o1, n1, p1, a1, l1, c1, g10, g11, g12, g13, t1⟩ := hi 1 (by decide)
  have y10 : w.cell? ⟨b, off + 4, none⟩ = some (.int .i64 o1) := g10
  have y11 : w.cell? ⟨b, off + 5, none⟩ = some (.int .i64 n1) := g11
  have y12 : w.cell? ⟨b, off + 6, none⟩ = some (.int .i64 p1) := g12
  have y13 : w.cell? ⟨b, off + 7, none⟩ = some (.slice a1 l1 c1) := g13
  have A1 : ∀ z : World, Below w.heap.size w z → Calls Try.prog 11 #[.agg #[.int .i64 o1, .int .i64 n1, .int .i64 p1, .slice a1 l1 c1], .agg #[.slice wa wn wk, .int .i64 (l : Nat)]] z fun e w' => BoolsOut z wn (hT wn l row (sub 1)) e w' ∧ Below z.heap.size z w' := fun z hz => ih 1 z _ wa wn wk l row (t1.mono hz) (hr.mono hz) (hsub 1 (by decide)) hwn hl
  clear hsub hi hat ih g00 g01 g02 g03 g10 g11 g12 g13
  have hmk := run_make_row' (P := Try.prog) 32 4 (.bool false) 1 Try.underlying32 Try.info_bool rfl .i64 .i64 wn (by omega) (by omega)
  obtain ⟨pe, pw, bt⟩ := heap2 w #[.int .i64 18, .int .i64 n, .int .i64 pl, .slice (some ⟨b, off, none⟩) 2 cap] #[.slice wa wn wk, .int .i64 (l : Nat)] 24 27
  go_enter Try.func11, Try.ntmps11
  go_upto_region 1 with fail
  obtain ⟨v2, hv⟩ : ∃ v, (w.alloc (.cells #[.int .i64 18, .int .i64 n, .int .i64 pl, .slice (some ⟨b, off, none⟩) 2 cap] 24)).alloc (.cells #[.slice wa wn wk, .int .i64 (l : Nat)] 27) = v := ⟨_, rfl⟩
  rw [hv] at pe pw bt ⊢
  obtain ⟨gw, hgw⟩ : ∃ g, w.heap.size + 1 = g := ⟨_, rfl⟩
  rw [hgw] at pw ⊢
  obtain ⟨ge, hge⟩ : ∃ g, w.heap.size = g := ⟨_, rfl⟩
  rw [hge] at pe ⊢
  have hbe : b < ge := hge ▸ hlt
  have hbw : b < gw := by omega
  clear hge hgw hv
  have w0 : v2.cell? ⟨gw, 0, none⟩ = some (.slice wa wn wk) := cell_of_row _ _ 0 _ _ _ pw
  have w1 : v2.cell? ⟨gw, 1, none⟩ = some (.int .i64 (l : Nat)) := cell_of_row _ _ 1 _ _ _ pw
  obtain ⟨hm0, bm⟩ := made1 v2 wn
  go_upto_region 3 with fail
  obtain ⟨v3, hv⟩ : ∃ v, v2.alloc (.cells (madeCells #[Value.bool false] wn) 4) = v := ⟨_, rfl⟩
  have hel := (Array.getElem?_eq_some_iff.1 pe).1
  have hwl := (Array.getElem?_eq_some_iff.1 pw).1
  obtain ⟨gs, hg⟩ : ∃ g, v2.heap.size = g := ⟨_, rfl⟩
  have hgs : w.heap.size ≤ gs := hg ▸ bt.size
  replace bt := below_then bt bm
  replace pe := row_bel bm pe
  replace pw := row_bel bm pw
  rw [hv] at hm0 bt pe pw ⊢
  rw [hg] at hm0 hel hwl ⊢
  clear hv hg bm w0 w1
  have e0 : v3.cell? ⟨ge, 0, none⟩ = some (.int .i64 18) := cell_of_row _ _ 0 _ _ _ pe
  have e1 : v3.cell? ⟨ge, 1, none⟩ = some (.int .i64 n) := cell_of_row _ _ 1 _ _ _ pe
  have e2 : v3.cell? ⟨ge, 2, none⟩ = some (.int .i64 pl) := cell_of_row _ _ 2 _ _ _ pe
  have e3 : v3.cell? ⟨ge, 3, none⟩ = some (.slice (some ⟨b, off, none⟩) 2 cap) := cell_of_row _ _ 3 _ _ _ pe
  go_wp2_with fail
  refine (lit_any _ _ _ (HT0.mono bt)).mono ?_
  rintro e w4 ⟨rfl, b4⟩
  rw [decide_eq_false hty]
  clear e0 e1 e2 e3 HT0 hty
  replace pe := row_bel b4 pe
  replace pw := row_bel b4 pw
  replace hm0 := hm0.mono b4
  replace bt := below_then bt b4
  go_upto_region 11 with fail
  have bk : Below w4.heap.size w4 w4.drew := (Below.refl _ _).drew
  have q0 : w4.drew.cell? ⟨ge, 3, none⟩ = some (.slice (some ⟨b, off, none⟩) 2 cap) := cell_of_row _ _ 3 _ _ _ pe
  have q1 : w4.drew.cell? ⟨gw, 0, none⟩ = some (.slice wa wn wk) := cell_of_row _ _ 0 _ _ _ pw
  have q2 : w4.drew.cell? ⟨gw, 1, none⟩ = some (.int .i64 (l : Nat)) := cell_of_row _ _ 1 _ _ _ pw
  have q3 : w4.drew.cell? ⟨b, off, none⟩ = some (.int .i64 o0) := (bt.cell (p := ⟨b, _, none⟩) hlt).trans y00
  have q4 : w4.drew.cell? ⟨b, off + 1, none⟩ = some (.int .i64 n0) := (bt.cell (p := ⟨b, _, none⟩) hlt).trans y01
  have q5 : w4.drew.cell? ⟨b, off + 2, none⟩ = some (.int .i64 p0) := (bt.cell (p := ⟨b, _, none⟩) hlt).trans y02
  have q6 : w4.drew.cell? ⟨b, off + 3, none⟩ = some (.slice a0 l0 c0) := (bt.cell (p := ⟨b, _, none⟩) hlt).trans y03
  have ha := A0 w4.drew (below_then bt bk)
  go_region_held3 (fun w' => w'.cell? ⟨ge, 3, none⟩ = some (.slice (some ⟨b, off, none⟩) 2 cap) ∧ w'.cell? ⟨gw, 0, none⟩ = some (.slice wa wn wk) ∧ w'.cell? ⟨gw, 1, none⟩ = some (.int .i64 (l : Nat)) ∧ w'.cell? ⟨b, off, none⟩ = some (.int .i64 o0) ∧ w'.cell? ⟨b, off + 1, none⟩ = some (.int .i64 n0) ∧ w'.cell? ⟨b, off + 2, none⟩ = some (.int .i64 p0) ∧ w'.cell? ⟨b, off + 3, none⟩ = some (.slice a0 l0 c0))
    (refine ⟨?_, ?_, ?_, ?_, ?_, ?_, ?_⟩ <;> with_reducible assumption)
    (first | (go_at_call 11; ((with_reducible refine ha.mono ?_); rintro e ws ⟨⟨ga, rfl, hhga, rga⟩, bz⟩; have zz := cell_next bz q0; clear q0; have q0 := zz; clear zz; have zz := cell_next bz q1; clear q1; have q1 := zz; clear zz; have zz := cell_next bz q2; clear q2; have q2 := zz; clear zz; have zz := cell_next bz q3; clear q3; have q3 := zz; clear zz; have zz := cell_next bz q4; clear q4; have q4 := zz; clear zz; have zz := cell_next bz q5; clear q5; have q5 := zz; clear zz; have zz := cell_next bz q6; clear q6; have q6 := zz; clear zz)))
  clear q0 q1 q2 q3 q4 q5 q6 ha
  have bz2 : Below w4.heap.size w4 ws := below_then bk bz
  replace pe := row_bel bz2 pe
  replace pw := row_bel bz2 pw
  have hsl0 := World.rowIs.lt hm0
  replace hm0 := hm0.mono bz2
  have hsa : gs < ga := Nat.lt_of_lt_of_le hsl0 (Nat.le_trans bk.size hhga)
  replace bt := below_then bt bz2
  clear bk bz bz2
  obtain ⟨w5, hws⟩ : ∃ x, ws = x := ⟨_, rfl⟩
  subst hws
  obtain ⟨hmb, bm⟩ := made1 ws wn
  have e3 : ws.cell? ⟨ge, 3, none⟩ = some (.slice (some ⟨b, off, none⟩) 2 cap) := cell_of_row _ _ 3 _ _ _ pe
  go_upto_region 13 with fail
  obtain ⟨v6, hv⟩ : ∃ v, ws.alloc (.cells (madeCells #[Value.bool false] wn) 4) = v := ⟨_, rfl⟩
  have hgal := World.rowIs.lt rga
  replace pe := row_bel bm pe
  replace pw := row_bel bm pw
  replace hm0 := hm0.mono bm
  replace rga := rga.mono bm
  replace bt := below_then bt bm
  obtain ⟨gb, hg⟩ : ∃ g, ws.heap.size = g := ⟨_, rfl⟩
  have hsb : gs < gb := by omega
  rw [hv] at hmb pe pw hm0 rga bt ⊢
  rw [hg] at hmb ⊢
  clear hv hg bm e3
  have e3 : v6.cell? ⟨ge, 3, none⟩ = some (.slice (some ⟨b, off, none⟩) 2 cap) := cell_of_row _ _ 3 _ _ _ pe
  go_upto_region 14 with fail
  clear e3 hmb hsb
  have bk : Below v6.heap.size v6 v6.drew := (Below.refl _ _).drew
  have q0 : v6.drew.cell? ⟨ge, 3, none⟩ = some (.slice (some ⟨b, off, none⟩) 2 cap) := cell_of_row _ _ 3 _ _ _ pe
  have q1 : v6.drew.cell? ⟨gw, 0, none⟩ = some (.slice wa wn wk) := cell_of_row _ _ 0 _ _ _ pw
  have q2 : v6.drew.cell? ⟨gw, 1, none⟩ = some (.int .i64 (l : Nat)) := cell_of_row _ _ 1 _ _ _ pw
  have q3 : v6.drew.cell? ⟨b, off + 4, none⟩ = some (.int .i64 o1) := (bt.cell (p := ⟨b, _, none⟩) hlt).trans y10
  have q4 : v6.drew.cell? ⟨b, off + 5, none⟩ = some (.int .i64 n1) := (bt.cell (p := ⟨b, _, none⟩) hlt).trans y11
  have q5 : v6.drew.cell? ⟨b, off + 6, none⟩ = some (.int .i64 p1) := (bt.cell (p := ⟨b, _, none⟩) hlt).trans y12
  have q6 : v6.drew.cell? ⟨b, off + 7, none⟩ = some (.slice a1 l1 c1) := (bt.cell (p := ⟨b, _, none⟩) hlt).trans y13
  have ha := A1 v6.drew (below_then bt bk)
  go_region_held3 (fun w' => w'.cell? ⟨ge, 3, none⟩ = some (.slice (some ⟨b, off, none⟩) 2 cap) ∧ w'.cell? ⟨gw, 0, none⟩ = some (.slice wa wn wk) ∧ w'.cell? ⟨gw, 1, none⟩ = some (.int .i64 (l : Nat)) ∧ w'.cell? ⟨b, off + 4, none⟩ = some (.int .i64 o1) ∧ w'.cell? ⟨b, off + 5, none⟩ = some (.int .i64 n1) ∧ w'.cell? ⟨b, off + 6, none⟩ = some (.int .i64 p1) ∧ w'.cell? ⟨b, off + 7, none⟩ = some (.slice a1 l1 c1))
    (refine ⟨?_, ?_, ?_, ?_, ?_, ?_, ?_⟩ <;> with_reducible assumption)
    (first | (go_at_call 11; ((with_reducible refine ha.mono ?_); rintro e ws ⟨⟨gb2, rfl, hhgb2, rgb2⟩, bz⟩; have zz := cell_next bz q0; clear q0; have q0 := zz; clear zz; have zz := cell_next bz q1; clear q1; have q1 := zz; clear zz; have zz := cell_next bz q2; clear q2; have q2 := zz; clear zz; have zz := cell_next bz q3; clear q3; have q3 := zz; clear zz; have zz := cell_next bz q4; clear q4; have q4 := zz; clear zz; have zz := cell_next bz q5; clear q5; have q5 := zz; clear zz; have zz := cell_next bz q6; clear q6; have q6 := zz; clear zz)))
  clear q0 q1 q2 q3 q4 q5 q6 ha
  have bz2 : Below v6.heap.size v6 ws := below_then bk bz
  have hsb : gs < gb2 := Nat.lt_of_lt_of_le (World.rowIs.lt hm0) (Nat.le_trans bk.size hhgb2)
  replace pe := row_bel bz2 pe
  replace pw := row_bel bz2 pw
  replace hm0 := hm0.mono bz2
  replace rga := rga.mono bz2
  replace bt := below_then bt bz2
  clear bk bz bz2
  obtain ⟨v7, hv7⟩ : ∃ x, ws = x := ⟨_, rfl⟩
  rw [hv7] at pe pw hm0 rga rgb2 bt ⊢
  have rgb := rgb2
  clear hv7 rgb2
  obtain ⟨hy, hno, hoo, bm⟩ := made3 v7 wn
  go_upto_region 19 with fail
  obtain ⟨v8, hv⟩ : ∃ v, ((v7.alloc (.cells (madeCells #[Value.bool false] wn) 4)).alloc (.cells (madeCells #[Value.bool false] wn) 4)).alloc (.cells (madeCells #[Value.bool false] wn) 4) = v := ⟨_, rfl⟩
  have hgal := World.rowIs.lt rga
  have hgbl := World.rowIs.lt rgb
  have hgsl := World.rowIs.lt hm0
  have hgel := (Array.getElem?_eq_some_iff.1 pe).1
  have hgwl := (Array.getElem?_eq_some_iff.1 pw).1
  replace pe := row_bel bm pe
  replace pw := row_bel bm pw
  replace hm0 := hm0.mono bm
  replace rga := rga.mono bm
  replace rgb := rgb.mono bm
  have hwy := bt.size
  replace bt := below_then bt bm
  rw [hv] at hy hno hoo pe pw hm0 rga rgb bt ⊢
  obtain ⟨go, hgo⟩ : ∃ g, v7.heap.size + 1 + 1 = g := ⟨_, rfl⟩
  obtain ⟨gn, hgn⟩ : ∃ g, v7.heap.size + 1 = g := ⟨_, rfl⟩
  obtain ⟨gy, hgy⟩ : ∃ g, v7.heap.size = g := ⟨_, rfl⟩
  rw [hgo] at hoo ⊢
  rw [hgn] at hno ⊢
  rw [hgy] at hy hgal hgbl hgsl hgel hgwl hwy ⊢
  have hyn : gy < gn := by omega
  have hno' : gn < go := by omega
  have dyo : gy ≠ go := by omega
  have dno : gn ≠ go := by omega
  have lyo : gy ≤ go := by omega
  clear hv hgo hgn hgy bm
  obtain ⟨fa, hfa⟩ : ∃ f, (hT wn l row (sub 0)) = f := ⟨_, rfl⟩
  have hfb : ∃ f, (hT wn l row (sub 1)) = f := ⟨_, rfl⟩
  obtain ⟨fb, hfb⟩ := hfb
  have hlaw : ∀ i, hT wn l row (.node 18 n pl 2 sub) i = (!fa i || fb i) := fun i => by rw [hT_18]; rw [hfa, hfb]
  rw [hfa] at rga
  have RB0 : BoolsAt v8 gb2 wn fb := by
    rw [← hfb]
    exact rgb
  have HB := Lib.hid hlaw
  have HA := Lib.hid rga
  have HBB := Lib.hid RB0
  have HY := Lib.hid ((hy.congr fun i hi => by simp) : v8.rowIs gy 4 wn fun i => .bool (if i < 0 then true else false))
  have HN := Lib.hid ((hno.congr fun i hi => by simp) : v8.rowIs gn 4 wn fun i => .bool (if i < 0 then !fa i else false))
  have HO := Lib.hid ((hoo.congr fun i hi => by simp) : v8.rowIs go 4 wn fun i => .bool (if i < 0 then !fb i else false))
  have B0 := Below.refl gy v8
  have BT8 := Lib.hid bt
  have HM0 := Lib.hid hm0
  have PE := Lib.hid pe
  have PW := Lib.hid pw
  clear rga rgb RB0 hy hno hoo hm0 pe pw bt hfa hfb hlaw
  go_loopw [15] (fun i w' => ∃ j : Nat, j ≤ wn ∧ i = .int .i64 (j : Nat) ∧ Hid (w'.rowIs gy 4 wn fun i => .bool (if i < j then true else false)) ∧ Hid (w'.rowIs gn 4 wn fun i => .bool (if i < j then !fa i else false)) ∧ Hid (w'.rowIs go 4 wn fun i => .bool (if i < j then !fb i else false)) ∧ Below gy v8 w') (fun i _ => wn - (intOf i).toNat)
  case atStart => exact ⟨0, Nat.zero_le _, rfl, HY, HN, HO, B0⟩
  case round =>
    clear HY HN HO B0
    obtain ⟨j, hj, rfl, HY, HN, HO, hb⟩ := hrel
    by_cases hjn : j < wn
    · have f1 : decide (j < wn) = true := by simpa using hjn
      have hyc := HY.out.cell hjn
      have hyf := HY.out.frozen j
      go_upto_region 22 with fail
      obtain ⟨w9, hw9⟩ : ∃ x, wr.setCell ⟨gy, j, none⟩ (.bool true) = x := ⟨_, rfl⟩
      have HY2 := Lib.hid ((HY.out.set j (.bool true)).congr fun i hi => upto_set (fun _ => true) j true rfl i)
      have oth : ∀ k, k ≠ gy → w9.heap[k]? = wr.heap[k]? := fun k hk => by rw [← hw9]; exact Below.heap_setCell _ _ _ _ hk
      have bb : Below gy v8 w9 := by rw [← hw9]; exact hb.setCell (Nat.le_refl _) _
      rw [hw9] at HY2 ⊢
      have HN2 := Lib.hid (HN.out.of_block (oth gn (by omega)))
      have HO2 := Lib.hid (HO.out.of_block (oth go (by omega)))
      clear hw9 oth hyc hyf HY HN HO hb
      have hac := (World.rowIs.of_block HA.out (bb.block ga hgal)).cell hjn
      have hnc := HN2.out.cell hjn
      have hnf := HN2.out.frozen j
      go_upto_region 23 with fail
      obtain ⟨w10, hw10⟩ : ∃ x, w9.setCell ⟨gn, j, none⟩ (.bool (!fa j)) = x := ⟨_, rfl⟩
      have HN3 := Lib.hid ((HN2.out.set j (.bool (!fa j))).congr fun i hi => upto_set (fun i => !fa i) j _ rfl i)
      have oth : ∀ k, k ≠ gn → w10.heap[k]? = w9.heap[k]? := fun k hk => by rw [← hw10]; exact Below.heap_setCell _ _ _ _ hk
      have bb2 : Below gy v8 w10 := by rw [← hw10]; exact bb.setCell (Nat.le_of_lt hyn) _
      rw [hw10] at HN3 ⊢
      have HY3 := Lib.hid (HY2.out.of_block (oth gy (by omega)))
      have HO3 := Lib.hid (HO2.out.of_block (oth go (by omega)))
      clear hw10 oth hac hnc hnf HY2 HN2 HO2 bb
      have hac := (World.rowIs.of_block HBB.out (bb2.block gb2 hgbl)).cell hjn
      have hnc := HO3.out.cell hjn
      have hnf := HO3.out.frozen j
      go_wp2_with fail
      exact ⟨⟨j + 1, by omega, by simp, Lib.hid (HY3.out.of_block (Below.heap_setCell _ _ _ _ dyo)), Lib.hid (HN3.out.of_block (Below.heap_setCell _ _ _ _ dno)), Lib.hid ((HO3.out.set j (.bool (!fb j))).congr fun i hi => upto_set (fun i => !fb i) j _ rfl i), bb2.setCell lyo _⟩, by simp [intOf]; omega⟩
    · have f1 : decide (j < wn) = false := by simpa using hjn
      obtain rfl : j = wn := by omega
      clear f1 hj
      have RY := Lib.hid ((HY.out.congr fun i hi => by rw [if_pos hi]) : BoolsAt wr gy j fun _ => true)
      have RN := Lib.hid ((HN.out.congr fun i hi => by rw [if_pos hi]) : BoolsAt wr gn j fun i => !fa i)
      have RO := Lib.hid ((HO.out.congr fun i hi => by rw [if_pos hi]) : BoolsAt wr go j fun i => !fb i)
      have RA := Lib.hid (World.rowIs.of_block HA.out (hb.block ga hgal) : BoolsAt wr ga j fa)
      have RB := Lib.hid (World.rowIs.of_block HBB.out (hb.block gb2 hgbl) : BoolsAt wr gb2 j fb)
      have HM := Lib.hid ((World.rowIs.of_block HM0.out (hb.block gs hgsl)).congr fun i hi => by simp : wr.rowIs gs 4 j fun i => .bool (if i < 0 then !fa i || fb i else false))
      have pe := (hb.block ge hgel).trans PE.out
      have pw := (hb.block gw hgwl).trans PW.out
      have HE0 := Lib.hid (cell_of_row _ _ 0 _ _ _ pe : wr.cell? ⟨ge, 0, none⟩ = some (.int .i64 18))
      have HW0 := Lib.hid (cell_of_row _ _ 0 _ _ _ pw : wr.cell? ⟨gw, 0, none⟩ = some (.slice wa j wk))
      have HW1 := Lib.hid (cell_of_row _ _ 1 _ _ _ pw : wr.cell? ⟨gw, 1, none⟩ = some (.int .i64 (l : Nat)))
      have K0 := KeepB.refl gs wr
      have BM := Lib.hid (BT8.out.trans (hb.mono hwy))
      have N1 : ga ≠ gs ∧ gb2 ≠ gs ∧ gy ≠ gs ∧ gn ≠ gs ∧ go ≠ gs ∧ ge ≠ gs ∧ gw ≠ gs := by omega
      have HN1 := Lib.hid N1
      clear HY HN HO HA HBB HM0 PE PW BT8 hb pe pw N1
      go_upto_region 25 with fail
      obtain ⟨wq, hwq⟩ : ∃ x, wr = x := ⟨_, rfl⟩
      rw [hwq] at RY RN RO RA RB HM HE0 HW0 HW1 K0 BM ⊢
      clear hwq
      go_loopw [16] (fun i w' => ∃ q : Nat, q ≤ j ∧ i = .int .i64 (q : Nat) ∧ Hid (w'.rowIs gs 4 j fun i => .bool (if i < q then !fa i || fb i else false)) ∧ KeepB gs wq w' ∧ Hid (Below w.heap.size w w')) (fun i _ => j - (intOf i).toNat)
      case atStart => exact ⟨0, Nat.zero_le _, rfl, HM, K0, BM⟩
      case round =>
        clear HM K0 BM
        obtain ⟨q, hq, rfl, HM, KB, BT⟩ := hrel
        by_cases hqn : q < j
        · have f1 : decide (q < j) = true := by simpa using hqn
          obtain ⟨na, nb, ny, nn, no, ne, nw⟩ := HN1.out
          have e0 := KB.cell HE0.out ne
          have k1 := World.rowIs.cell (KB.bools RA.out na) hqn
          have k2 := World.rowIs.cell (KB.bools RB.out nb) hqn
          have hcell := HM.out.cell hqn
          have hfr := HM.out.frozen q
          have HB2 := Lib.hid (rfl : (fun i => !fa i || fb i) q = (fun i => !fa i || fb i) q)
          obtain ⟨X, hX⟩ : ∃ X, fa q = X := ⟨_, rfl⟩
          obtain ⟨Y, hY⟩ : ∃ Y, fb q = Y := ⟨_, rfl⟩
          rw [hX] at k1
          rw [hY] at k2
          have HX := Lib.hid (And.intro hX hY)
          clear hX hY na nb ny nn no ne nw HB2
          cases X <;> cases Y
          all_goals
            go_wp2_with fail
            refine ⟨⟨q + 1, by omega, by simp, Lib.hid ((HM.out.set q _).congr fun i hi => upto_set (fun i => !fa i || fb i) q _ (by simp [HX.out.1, HX.out.2]) i), KB.set q _, Lib.hid (BT.out.setCell hgs _)⟩, by simp [intOf]; omega⟩
        · have f1 : decide (q < j) = false := by simpa using hqn
          obtain rfl : q = j := by omega
          go_wp2_with fail
          go_ret
          exact ⟨⟨gs, rfl, hgs, HM.out.congr fun i hi => by rw [if_pos hi, HB.out i]⟩, BT.out⟩
end Go.Proofs.Ytdeanjphcggbpaa
