/- sem.All, kinds 23, 24 (by gen17h.py). -/
import Derived.Test.YtogdfjcgcdbnaaaSemD
namespace Go.Proofs.Ytogdfjcgcdbnaaa
open Go.RowKit
set_option linter.unusedVariables false
set_option linter.unusedSimpArgs false
set_option maxRecDepth 20000 in
set_option maxHeartbeats 4000000 in
theorem all_23 (n pl : Int) (len : Nat) (sub : Nat → T) (ih : ∀ j, AllOK (sub j)) : AllOK (.node 23 n pl len sub) := by
  intro w v wa wn wk l row ht hr hf hwn hl
  obtain ⟨a, cap, rfl, ho, hn, hp, hln, hnone, hat⟩ := ht
  have hsub := ty_fm hf (by decide)
  obtain ⟨_, _, m3, _⟩ := hf.1
  obtain rfl : len = 2 := by rw [m3]; rfl
  clear m3 hf ho hln
  obtain ⟨b, off, rfl, hlt, hi⟩ := hat.resolve_left (by decide)
  have A0 := ih 0
  have A1 := ih 1
  have HF0 := Lib.hid (hsub 0 (by decide))
  have HF1 := Lib.hid (hsub 1 (by decide))
  obtain ⟨o0, n0, p0, a0, l0, c0, g00, g01, g02, g03, t0⟩ := hi 0 (by decide)
  have y00 : w.cell? ⟨b, off, none⟩ = some (.int .i64 o0) := g00
  have y01 : w.cell? ⟨b, off + 1, none⟩ = some (.int .i64 n0) := g01
  have y02 : w.cell? ⟨b, off + 2, none⟩ = some (.int .i64 p0) := g02
  have y03 : w.cell? ⟨b, off + 3, none⟩ = some (.slice a0 l0 c0) := g03
  obtain ⟨o1, n1, p1, a1, l1, c1, g10, g11, g12, g13, t1⟩ := hi 1 (by decide)
  have y10 : w.cell? ⟨b, off + 4, none⟩ = some (.int .i64 o1) := g10
  have y11 : w.cell? ⟨b, off + 5, none⟩ = some (.int .i64 n1) := g11
  have y12 : w.cell? ⟨b, off + 6, none⟩ = some (.int .i64 p1) := g12
  have y13 : w.cell? ⟨b, off + 7, none⟩ = some (.slice a1 l1 c1) := g13
  have HSUB := Lib.hid hsub
  clear hsub hi hat ih g00 g01 g02 g03 g10 g11 g12 g13
  have A := (Below.refl w.heap.size w).alloc (Nat.le_refl _) (.cells #[.int .i64 23, .int .i64 n, .int .i64 pl, .slice (some ⟨b, off, none⟩) 2 cap] 24)
  have pe : (w.alloc (.cells #[.int .i64 23, .int .i64 n, .int .i64 pl, .slice (some ⟨b, off, none⟩) 2 cap] 24)).heap[w.heap.size]? = some (.cells #[.int .i64 23, .int .i64 n, .int .i64 pl, .slice (some ⟨b, off, none⟩) 2 cap] 24 (0, 0)) := heap_alloc_new _ _
  have A2 := (Below.refl (w.alloc (.cells #[.int .i64 23, .int .i64 n, .int .i64 pl, .slice (some ⟨b, off, none⟩) 2 cap] 24)).heap.size (w.alloc (.cells #[.int .i64 23, .int .i64 n, .int .i64 pl, .slice (some ⟨b, off, none⟩) 2 cap] 24))).alloc (Nat.le_refl _) (.cells #[.slice wa wn wk, .int .i64 (l : Nat)] 27)
  have pw : ((w.alloc (.cells #[.int .i64 23, .int .i64 n, .int .i64 pl, .slice (some ⟨b, off, none⟩) 2 cap] 24)).alloc (.cells #[.slice wa wn wk, .int .i64 (l : Nat)] 27)).heap[(w.alloc (.cells #[.int .i64 23, .int .i64 n, .int .i64 pl, .slice (some ⟨b, off, none⟩) 2 cap] 24)).heap.size]? = some (.cells #[.slice wa wn wk, .int .i64 (l : Nat)] 27 (0, 0)) := heap_alloc_new _ _
  replace pe := (A2.block w.heap.size (by simp)).trans pe
  have bt := below_then A A2
  go_enter Try.func11, Try.ntmps11
  go_upto_region 1 with fail
  obtain ⟨v2, hv⟩ : ∃ v, (w.alloc (.cells #[.int .i64 23, .int .i64 n, .int .i64 pl, .slice (some ⟨b, off, none⟩) 2 cap] 24)).alloc (.cells #[.slice wa wn wk, .int .i64 (l : Nat)] 27) = v := ⟨_, rfl⟩
  rw [World.size_alloc] at pw
  rw [hv] at pe pw bt ⊢
  obtain ⟨ge, hge⟩ : ∃ g, w.heap.size = g := ⟨_, rfl⟩
  rw [hge] at pe pw ⊢
  obtain ⟨gw, hgw⟩ : ∃ g, ge + 1 = g := ⟨_, rfl⟩
  rw [hgw] at pw ⊢
  have hgE : w.heap.size ≤ ge := Nat.le_of_eq hge
  have hgW : w.heap.size ≤ gw := by omega
  clear hv hge hgw A A2
  have hlv : b < v2.heap.size := Nat.lt_of_lt_of_le hlt bt.size
  have hev : ge < v2.heap.size := (Array.getElem?_eq_some_iff.1 pe).1
  have hwv : gw < v2.heap.size := (Array.getElem?_eq_some_iff.1 pw).1
  have e0 : v2.cell? ⟨ge, 0, none⟩ = some (.int .i64 23) := cell_of_row _ _ 0 _ _ _ pe
  go_upto_region 3 with fail
  clear e0
  go_cut [5] from 13 to 18 (fun v5 w' => ∃ gA ga : Nat, v5 = .pointer (some ⟨gA, 0, none⟩) ∧ v2.heap.size ≤ gA ∧ w'.heap[gA]? = some (.cells #[.slice (some ⟨ga, 0, none⟩) wn wn] 32 (0, 0)) ∧ BoolsAt w' ga wn (hT wn l row (sub 0)) ∧ Below v2.heap.size v2 w')
  case first =>
    have neE : ge ≠ v2.heap.size := Nat.ne_of_lt hev
    have neW : gw ≠ v2.heap.size := Nat.ne_of_lt hwv
    have neB : b ≠ v2.heap.size := Nat.ne_of_lt hlv
    have bD : Below v2.heap.size v2 v2.drew := (Below.refl _ _).drew
    have bA : Below v2.heap.size v2 (v2.alloc (.cells #[.slice none 0 0] 32)).drew := ((Below.refl _ _).alloc (Nat.le_refl _) _).drew
    have x3D : v2.drew.cell? ⟨ge, 3, none⟩ = some (.slice (some ⟨b, off, none⟩) 2 cap) := (cell_of_row _ _ 3 _ _ _ pe)
    have x3A : (v2.alloc (.cells #[.slice none 0 0] 32)).drew.cell? ⟨ge, 3, none⟩ = some (.slice (some ⟨b, off, none⟩) 2 cap) := (bA.cell (p := ⟨ge, 3, none⟩) hev).trans (cell_of_row _ _ 3 _ _ _ pe)
    have z0D : v2.drew.cell? ⟨b, off, none⟩ = some (.int .i64 o0) := ((bt.cell (p := ⟨b, _, none⟩) hlt).trans y00)
    have z0A : (v2.alloc (.cells #[.slice none 0 0] 32)).drew.cell? ⟨b, off, none⟩ = some (.int .i64 o0) := (bA.cell (p := ⟨b, off, none⟩) hlv).trans ((bt.cell (p := ⟨b, _, none⟩) hlt).trans y00)
    have z1D : v2.drew.cell? ⟨b, off + 1, none⟩ = some (.int .i64 n0) := ((bt.cell (p := ⟨b, _, none⟩) hlt).trans y01)
    have z1A : (v2.alloc (.cells #[.slice none 0 0] 32)).drew.cell? ⟨b, off + 1, none⟩ = some (.int .i64 n0) := (bA.cell (p := ⟨b, off + 1, none⟩) hlv).trans ((bt.cell (p := ⟨b, _, none⟩) hlt).trans y01)
    have z2D : v2.drew.cell? ⟨b, off + 2, none⟩ = some (.int .i64 p0) := ((bt.cell (p := ⟨b, _, none⟩) hlt).trans y02)
    have z2A : (v2.alloc (.cells #[.slice none 0 0] 32)).drew.cell? ⟨b, off + 2, none⟩ = some (.int .i64 p0) := (bA.cell (p := ⟨b, off + 2, none⟩) hlv).trans ((bt.cell (p := ⟨b, _, none⟩) hlt).trans y02)
    have z3D : v2.drew.cell? ⟨b, off + 3, none⟩ = some (.slice a0 l0 c0) := ((bt.cell (p := ⟨b, _, none⟩) hlt).trans y03)
    have z3A : (v2.alloc (.cells #[.slice none 0 0] 32)).drew.cell? ⟨b, off + 3, none⟩ = some (.slice a0 l0 c0) := (bA.cell (p := ⟨b, off + 3, none⟩) hlv).trans ((bt.cell (p := ⟨b, _, none⟩) hlt).trans y03)
    have u0D : v2.drew.cell? ⟨gw, 0, none⟩ = some (.slice wa wn wk) := (cell_of_row _ _ 0 _ _ _ pw)
    have u0A : (v2.alloc (.cells #[.slice none 0 0] 32)).drew.cell? ⟨gw, 0, none⟩ = some (.slice wa wn wk) := (bA.cell (p := ⟨gw, 0, none⟩) hwv).trans (cell_of_row _ _ 0 _ _ _ pw)
    have u1D : v2.drew.cell? ⟨gw, 1, none⟩ = some (.int .i64 (l : Nat)) := (cell_of_row _ _ 1 _ _ _ pw)
    have u1A : (v2.alloc (.cells #[.slice none 0 0] 32)).drew.cell? ⟨gw, 1, none⟩ = some (.int .i64 (l : Nat)) := (bA.cell (p := ⟨gw, 1, none⟩) hwv).trans (cell_of_row _ _ 1 _ _ _ pw)
    have hI1 := A0 v2.drew _ wa wn wk l row (t0.mono (below_then bt bD)) (hr.mono (below_then bt bD)) HF0.out hwn hl
    have hI2 := A0 (v2.alloc (.cells #[.slice none 0 0] 32)).drew _ wa wn wk l row (t0.mono (below_then bt bA)) (hr.mono (below_then bt bA)) HF0.out hwn hl
    have hzA : (v2.alloc (.cells #[.slice none 0 0] 32)).drew.heap[v2.heap.size]? = some (.cells #[.slice none 0 0] 32 (0, 0)) := heap_alloc_new v2 _
    go_region_held3 (fun w' => w'.cell? ⟨ge, 3, none⟩ = some (.slice (some ⟨b, off, none⟩) 2 cap) ∧ w'.cell? ⟨b, off, none⟩ = some (.int .i64 o0) ∧ w'.cell? ⟨b, off + 1, none⟩ = some (.int .i64 n0) ∧ w'.cell? ⟨b, off + 2, none⟩ = some (.int .i64 p0) ∧ w'.cell? ⟨b, off + 3, none⟩ = some (.slice a0 l0 c0) ∧ w'.cell? ⟨gw, 0, none⟩ = some (.slice wa wn wk) ∧ w'.cell? ⟨gw, 1, none⟩ = some (.int .i64 (l : Nat)))
      (first | (refine ⟨?_, ?_, ?_, ?_, ?_, ?_, ?_⟩ <;> with_reducible assumption) | (refine ⟨?_, ?_, ?_, ?_, ?_, ?_, ?_⟩; with_reducible exact cellAlloc _ _ rx3; with_reducible exact cellAlloc _ _ rz0; with_reducible exact cellAlloc _ _ rz1; with_reducible exact cellAlloc _ _ rz2; with_reducible exact cellAlloc _ _ rz3; with_reducible exact cellAlloc _ _ ru0; with_reducible exact cellAlloc _ _ ru1) | (refine ⟨?_, ?_, ?_, ?_, ?_, ?_, ?_⟩; with_reducible exact cellSet _ _ _ neE rx3; with_reducible exact cellSet _ _ _ neB rz0; with_reducible exact cellSet _ _ _ neB rz1; with_reducible exact cellSet _ _ _ neB rz2; with_reducible exact cellSet _ _ _ neB rz3; with_reducible exact cellSet _ _ _ neW ru0; with_reducible exact cellSet _ _ _ neW ru1))
      (first | (go_at_call 11; ((with_reducible refine hI2.mono ?_); rintro e ws ⟨⟨ga, rfl, hga, hra⟩, bz⟩; have bw : Below v2.heap.size v2 ws := below_then bA bz; have HRA := Lib.hid hra; clear hra; have rx3 : ws.cell? ⟨ge, 3, none⟩ = some (.slice (some ⟨b, off, none⟩) 2 cap) := (bz.cell (p := ⟨ge, 3, none⟩) (by show ge < _; have := bA.size; omega)).trans x3A; have rz0 : ws.cell? ⟨b, off, none⟩ = some (.int .i64 o0) := (bz.cell (p := ⟨b, off, none⟩) (by show b < _; have := bA.size; omega)).trans z0A; have rz1 : ws.cell? ⟨b, off + 1, none⟩ = some (.int .i64 n0) := (bz.cell (p := ⟨b, off + 1, none⟩) (by show b < _; have := bA.size; omega)).trans z1A; have rz2 : ws.cell? ⟨b, off + 2, none⟩ = some (.int .i64 p0) := (bz.cell (p := ⟨b, off + 2, none⟩) (by show b < _; have := bA.size; omega)).trans z2A; have rz3 : ws.cell? ⟨b, off + 3, none⟩ = some (.slice a0 l0 c0) := (bz.cell (p := ⟨b, off + 3, none⟩) (by show b < _; have := bA.size; omega)).trans z3A; have ru0 : ws.cell? ⟨gw, 0, none⟩ = some (.slice wa wn wk) := (bz.cell (p := ⟨gw, 0, none⟩) (by show gw < _; have := bA.size; omega)).trans u0A; have ru1 : ws.cell? ⟨gw, 1, none⟩ = some (.int .i64 (l : Nat)) := (bz.cell (p := ⟨gw, 1, none⟩) (by show gw < _; have := bA.size; omega)).trans u1A; have gz := (bz.block v2.heap.size (by simp)).trans hzA; have gc := cell_of_row _ _ 0 _ _ _ gz; have gf := frozen_of_row ws v2.heap.size 0 _ _ gz)) | (go_at_call 11; ((with_reducible refine hI1.mono ?_); rintro e ws ⟨⟨ga, rfl, hga, hra⟩, bz⟩; have bw : Below v2.heap.size v2 ws := below_then bD bz; have HRA := Lib.hid hra; clear hra; have rx3 : ws.cell? ⟨ge, 3, none⟩ = some (.slice (some ⟨b, off, none⟩) 2 cap) := (bz.cell (p := ⟨ge, 3, none⟩) (by show ge < _; have := bD.size; omega)).trans x3D; have rz0 : ws.cell? ⟨b, off, none⟩ = some (.int .i64 o0) := (bz.cell (p := ⟨b, off, none⟩) (by show b < _; have := bD.size; omega)).trans z0D; have rz1 : ws.cell? ⟨b, off + 1, none⟩ = some (.int .i64 n0) := (bz.cell (p := ⟨b, off + 1, none⟩) (by show b < _; have := bD.size; omega)).trans z1D; have rz2 : ws.cell? ⟨b, off + 2, none⟩ = some (.int .i64 p0) := (bz.cell (p := ⟨b, off + 2, none⟩) (by show b < _; have := bD.size; omega)).trans z2D; have rz3 : ws.cell? ⟨b, off + 3, none⟩ = some (.slice a0 l0 c0) := (bz.cell (p := ⟨b, off + 3, none⟩) (by show b < _; have := bD.size; omega)).trans z3D; have ru0 : ws.cell? ⟨gw, 0, none⟩ = some (.slice wa wn wk) := (bz.cell (p := ⟨gw, 0, none⟩) (by show gw < _; have := bD.size; omega)).trans u0D; have ru1 : ws.cell? ⟨gw, 1, none⟩ = some (.int .i64 (l : Nat)) := (bz.cell (p := ⟨gw, 1, none⟩) (by show gw < _; have := bD.size; omega)).trans u1D)))
    all_goals
      go_wp2_with fail
      go_meet
      have al := (Below.refl ws.heap.size ws).alloc (Nat.le_refl _) (.cells #[Value.slice (some ⟨ga, 0, none⟩) wn wn] 32)
      first
      | exact ⟨ws.heap.size, ga, rfl, bw.size, heap_alloc_new _ _, HRA.out.mono al, below_then bw al⟩
      | exact ⟨v2.heap.size, ga, rfl, Nat.le_refl _, one_row _ _ _ _ _ gz, HRA.out.other (Below.heap_setCell _ _ _ _ (show ga ≠ v2.heap.size by simp at hga; omega)), bw.setCell (Nat.le_refl _) _⟩
  case rest =>
    obtain ⟨gA, ga, rfl, hgA, pa, ra, bx⟩ := hcut
    have pe1 := (bx.block ge hev).trans pe
    have pw1 := (bx.block gw hwv).trans pw
    have bt1 := below_then bt bx
    have cA : wc.cell? ⟨gA, 0, none⟩ = some (.slice (some ⟨ga, 0, none⟩) wn wn) := cell_of_row _ _ 0 _ _ _ pa
    have bB := (Below.refl wc.heap.size wc).alloc (Nat.le_refl _) (.cells #[Value.slice (some ⟨ga, 0, none⟩) wn wn] 32)
    have pB : (wc.alloc (.cells #[Value.slice (some ⟨ga, 0, none⟩) wn wn] 32)).heap[wc.heap.size]? = some (.cells #[Value.slice (some ⟨ga, 0, none⟩) wn wn] 32 (0, 0)) := heap_alloc_new _ _
    have hAl := (Array.getElem?_eq_some_iff.1 pa).1
    have hGAl := World.rowIs.lt ra
    have pe2 := (bB.block ge (Nat.lt_of_lt_of_le hev bx.size)).trans pe1
    have pw2 := (bB.block gw (Nat.lt_of_lt_of_le hwv bx.size)).trans pw1
    have pA2 := (bB.block gA hAl).trans pa
    have ra2 := ra.mono bB
    have bt2 := below_then bt1 bB
    have hgs := bt1.size
    go_upto_region 5 with fail
    obtain ⟨v3, hv⟩ : ∃ v, wc.alloc (.cells #[Value.slice (some ⟨ga, 0, none⟩) wn wn] 32) = v := ⟨_, rfl⟩
    obtain ⟨gB, hg⟩ : ∃ g, wc.heap.size = g := ⟨_, rfl⟩
    rw [hv] at pB pe2 pw2 pA2 ra2 bt2 ⊢
    rw [hg] at pB hAl hgs hGAl ⊢
    have hGAB : ga ≠ gB := Nat.ne_of_lt hGAl
    have hAB : gA ≠ gB := Nat.ne_of_lt hAl
    have heB : ge ≠ gB := by have := bx.size; omega
    have hwB : gw ≠ gB := by have := bx.size; omega
    have hbB : b ≠ gB := by have := bx.size; omega
    have RA := Lib.hid ra2
    clear hv hg bB pe pw pe1 pw1 pa bx bt1 ra ra2 cA
    have e3 : v3.cell? ⟨ge, 3, none⟩ = some (.slice (some ⟨b, off, none⟩) 2 cap) := cell_of_row _ _ 3 _ _ _ pe2
    go_upto_region 6 with fail
    clear e3
    go_cut [6] from 24 to 29 (fun v6 w' => ∃ gb : Nat, v6 = .pointer (some ⟨gB, 0, none⟩) ∧ w'.heap[gB]? = some (.cells #[.slice (some ⟨gb, 0, none⟩) wn wn] 32 (0, 0)) ∧ BoolsAt w' gb wn (hT wn l row (sub 1)) ∧ w'.heap[ge]? = some (.cells #[.int .i64 23, .int .i64 n, .int .i64 pl, .slice (some ⟨b, off, none⟩) 2 cap] 24 (0, 0)) ∧ w'.heap[gw]? = some (.cells #[.slice wa wn wk, .int .i64 (l : Nat)] 27 (0, 0)) ∧ w'.heap[gA]? = some (.cells #[.slice (some ⟨ga, 0, none⟩) wn wn] 32 (0, 0)) ∧ BoolsAt w' ga wn (hT wn l row (sub 0)) ∧ Below w.heap.size w w')
    case first =>
      have bD : Below v3.heap.size v3 v3.drew := (Below.refl _ _).drew
      have hev3 : ge < v3.heap.size := (Array.getElem?_eq_some_iff.1 pe2).1
      have hwv3 : gw < v3.heap.size := (Array.getElem?_eq_some_iff.1 pw2).1
      have hAv3 : gA < v3.heap.size := (Array.getElem?_eq_some_iff.1 pA2).1
      have hBv3 : gB < v3.heap.size := (Array.getElem?_eq_some_iff.1 pB).1
      have hlv3 : b < v3.heap.size := Nat.lt_of_lt_of_le hlt bt2.size
      have x3D : v3.drew.cell? ⟨ge, 3, none⟩ = some (.slice (some ⟨b, off, none⟩) 2 cap) := (cell_of_row _ _ 3 _ _ _ pe2)
      have z0D : v3.drew.cell? ⟨b, off + 4, none⟩ = some (.int .i64 o1) := ((bt2.cell (p := ⟨b, _, none⟩) hlt).trans y10)
      have z1D : v3.drew.cell? ⟨b, off + 5, none⟩ = some (.int .i64 n1) := ((bt2.cell (p := ⟨b, _, none⟩) hlt).trans y11)
      have z2D : v3.drew.cell? ⟨b, off + 6, none⟩ = some (.int .i64 p1) := ((bt2.cell (p := ⟨b, _, none⟩) hlt).trans y12)
      have z3D : v3.drew.cell? ⟨b, off + 7, none⟩ = some (.slice a1 l1 c1) := ((bt2.cell (p := ⟨b, _, none⟩) hlt).trans y13)
      have u0D : v3.drew.cell? ⟨gw, 0, none⟩ = some (.slice wa wn wk) := (cell_of_row _ _ 0 _ _ _ pw2)
      have u1D : v3.drew.cell? ⟨gw, 1, none⟩ = some (.int .i64 (l : Nat)) := (cell_of_row _ _ 1 _ _ _ pw2)
      have hI1 := A1 v3.drew _ wa wn wk l row (t1.mono (below_then bt2 bD)) (hr.mono (below_then bt2 bD)) HF1.out hwn hl
      go_region_held3 (fun w' => w'.cell? ⟨ge, 3, none⟩ = some (.slice (some ⟨b, off, none⟩) 2 cap) ∧ w'.cell? ⟨b, off + 4, none⟩ = some (.int .i64 o1) ∧ w'.cell? ⟨b, off + 5, none⟩ = some (.int .i64 n1) ∧ w'.cell? ⟨b, off + 6, none⟩ = some (.int .i64 p1) ∧ w'.cell? ⟨b, off + 7, none⟩ = some (.slice a1 l1 c1) ∧ w'.cell? ⟨gw, 0, none⟩ = some (.slice wa wn wk) ∧ w'.cell? ⟨gw, 1, none⟩ = some (.int .i64 (l : Nat)))
        (first | (refine ⟨?_, ?_, ?_, ?_, ?_, ?_, ?_⟩ <;> with_reducible assumption) | (refine ⟨?_, ?_, ?_, ?_, ?_, ?_, ?_⟩; with_reducible exact cellSet _ _ _ heB rx3; with_reducible exact cellSet _ _ _ hbB rz0; with_reducible exact cellSet _ _ _ hbB rz1; with_reducible exact cellSet _ _ _ hbB rz2; with_reducible exact cellSet _ _ _ hbB rz3; with_reducible exact cellSet _ _ _ hwB ru0; with_reducible exact cellSet _ _ _ hwB ru1))
        ((go_at_call 11; ((with_reducible refine hI1.mono ?_); rintro e ws ⟨⟨gb, rfl, hgb, hrb⟩, bz⟩; have bw : Below v3.heap.size v3 ws := below_then bD bz; have HRB := Lib.hid hrb; clear hrb; have gz := (bz.block gB (by show gB < _; have := bD.size; omega)).trans pB; have gc := cell_of_row _ _ 0 _ _ _ gz; have gf := frozen_of_row ws gB 0 _ _ gz; have rx3 : ws.cell? ⟨ge, 3, none⟩ = some (.slice (some ⟨b, off, none⟩) 2 cap) := (bz.cell (p := ⟨ge, 3, none⟩) (by show ge < _; have := bD.size; omega)).trans x3D; have rz0 : ws.cell? ⟨b, off + 4, none⟩ = some (.int .i64 o1) := (bz.cell (p := ⟨b, off + 4, none⟩) (by show b < _; have := bD.size; omega)).trans z0D; have rz1 : ws.cell? ⟨b, off + 5, none⟩ = some (.int .i64 n1) := (bz.cell (p := ⟨b, off + 5, none⟩) (by show b < _; have := bD.size; omega)).trans z1D; have rz2 : ws.cell? ⟨b, off + 6, none⟩ = some (.int .i64 p1) := (bz.cell (p := ⟨b, off + 6, none⟩) (by show b < _; have := bD.size; omega)).trans z2D; have rz3 : ws.cell? ⟨b, off + 7, none⟩ = some (.slice a1 l1 c1) := (bz.cell (p := ⟨b, off + 7, none⟩) (by show b < _; have := bD.size; omega)).trans z3D; have ru0 : ws.cell? ⟨gw, 0, none⟩ = some (.slice wa wn wk) := (bz.cell (p := ⟨gw, 0, none⟩) (by show gw < _; have := bD.size; omega)).trans u0D; have ru1 : ws.cell? ⟨gw, 1, none⟩ = some (.int .i64 (l : Nat)) := (bz.cell (p := ⟨gw, 1, none⟩) (by show gw < _; have := bD.size; omega)).trans u1D)))
      all_goals
        go_wp2_with fail
        go_meet
        have hgb2 : gb ≠ gB := by have := bD.size; omega
        have hgaB : ga ≠ gB := hGAB
        exact ⟨gb, rfl, one_row _ _ _ _ _ gz, HRB.out.other (Below.heap_setCell _ _ _ _ (show gb ≠ gB from hgb2)), (Below.heap_setCell _ _ _ _ (show ge ≠ gB from heB)).trans ((bw.block ge hev3).trans pe2), (Below.heap_setCell _ _ _ _ (show gw ≠ gB from hwB)).trans ((bw.block gw hwv3).trans pw2), (Below.heap_setCell _ _ _ _ (show gA ≠ gB from hAB)).trans ((bw.block gA hAv3).trans pA2), (RA.out.mono bw).other (Below.heap_setCell _ _ _ _ (show ga ≠ gB from hgaB)), (below_then bt2 bw).setCell (show w.heap.size ≤ gB from hgs) _⟩
    case rest =>
      obtain ⟨gb, rfl, pb4, rb4, pe4, pw4, pA4, ra4, bt4⟩ := hcut
      have RB := Lib.hid rb4
      have RA4 := Lib.hid ra4
      clear rb4 ra4 pB pe2 pw2 pA2 RA bt2
      have e0 : wc.cell? ⟨ge, 0, none⟩ = some (.int .i64 23) := cell_of_row _ _ 0 _ _ _ pe4
      have w0 : wc.cell? ⟨gw, 0, none⟩ = some (.slice wa wn wk) := cell_of_row _ _ 0 _ _ _ pw4
      have w1 : wc.cell? ⟨gw, 1, none⟩ = some (.int .i64 (l : Nat)) := cell_of_row _ _ 1 _ _ _ pw4
      have HBT := Lib.hid bt4
      go_wp2_with fail
      refine (still_gen wc wa wn wk l false 43 #[.pointer (some ⟨gB, 0, none⟩), .pointer (some ⟨gA, 0, none⟩)] (fun i x => (hT wn l row (sub 1)) i || ((hT wn l row (sub 0)) i && x)) (untU wn l (hT wn l row (sub 0)) (hT wn l row (sub 1))) (enters_of Try.func43 (by kernel_rfl) rfl) hwn hl (fun z i hi x => cl_until z.w gA ga gB gb wn (hT wn l row (sub 0)) (hT wn l row (sub 1)) i x hi hwn (cell_of_row _ _ 0 _ _ _ ((z.below.block gA (Array.getElem?_eq_some_iff.1 pA4).1).trans pA4)) (RA4.out.mono z.below) (cell_of_row _ _ 0 _ _ _ ((z.below.block gB (Array.getElem?_eq_some_iff.1 pb4).1).trans pb4)) (RB.out.mono z.below)) (fun i x y hxy h => by revert hxy h; simp only []; cases (hT wn l row (sub 0)) i <;> cases (hT wn l row (sub 1)) i <;> cases x <;> cases y <;> simp) (fun i hi => by rw [untU_fix] <;> simp) (fun R hR i hi hne => by have := untU_least (a := (hT wn l row (sub 0))) (b := (hT wn l row (sub 1))) (R := R) hl hR i hi (by simpa using hne); simp [this])).mono ?_
      rintro e w9 ⟨hout, b9⟩
      have hout2 := Lib.hid (hout.up (w := w) (h := hT wn l row (.node 23 n pl 2 sub)) HBT.out.size (fun i hi => (hT_23 wn l row n pl 2 sub i).symm))
      obtain ⟨g9, rfl, _, _⟩ := hout
      have bt9 := below_then HBT.out b9
      clear e0 w0 w1
      go_wp2_with fail
      go_ret
      exact ⟨hout2.out, bt9⟩
set_option maxRecDepth 20000 in
set_option maxHeartbeats 4000000 in
theorem all_24 (n pl : Int) (len : Nat) (sub : Nat → T) (ih : ∀ j, AllOK (sub j)) : AllOK (.node 24 n pl len sub) := by
  intro w v wa wn wk l row ht hr hf hwn hl
  obtain ⟨a, cap, rfl, ho, hn, hp, hln, hnone, hat⟩ := ht
  have hsub := ty_fm hf (by decide)
  obtain ⟨_, _, m3, _⟩ := hf.1
  obtain rfl : len = 2 := by rw [m3]; rfl
  clear m3 hf ho hln
  obtain ⟨b, off, rfl, hlt, hi⟩ := hat.resolve_left (by decide)
  have A0 := ih 0
  have A1 := ih 1
  have HF0 := Lib.hid (hsub 0 (by decide))
  have HF1 := Lib.hid (hsub 1 (by decide))
  obtain ⟨o0, n0, p0, a0, l0, c0, g00, g01, g02, g03, t0⟩ := hi 0 (by decide)
  have y00 : w.cell? ⟨b, off, none⟩ = some (.int .i64 o0) := g00
  have y01 : w.cell? ⟨b, off + 1, none⟩ = some (.int .i64 n0) := g01
  have y02 : w.cell? ⟨b, off + 2, none⟩ = some (.int .i64 p0) := g02
  have y03 : w.cell? ⟨b, off + 3, none⟩ = some (.slice a0 l0 c0) := g03
  obtain ⟨o1, n1, p1, a1, l1, c1, g10, g11, g12, g13, t1⟩ := hi 1 (by decide)
  have y10 : w.cell? ⟨b, off + 4, none⟩ = some (.int .i64 o1) := g10
  have y11 : w.cell? ⟨b, off + 5, none⟩ = some (.int .i64 n1) := g11
  have y12 : w.cell? ⟨b, off + 6, none⟩ = some (.int .i64 p1) := g12
  have y13 : w.cell? ⟨b, off + 7, none⟩ = some (.slice a1 l1 c1) := g13
  have HSUB := Lib.hid hsub
  clear hsub hi hat ih g00 g01 g02 g03 g10 g11 g12 g13
  have A := (Below.refl w.heap.size w).alloc (Nat.le_refl _) (.cells #[.int .i64 24, .int .i64 n, .int .i64 pl, .slice (some ⟨b, off, none⟩) 2 cap] 24)
  have pe : (w.alloc (.cells #[.int .i64 24, .int .i64 n, .int .i64 pl, .slice (some ⟨b, off, none⟩) 2 cap] 24)).heap[w.heap.size]? = some (.cells #[.int .i64 24, .int .i64 n, .int .i64 pl, .slice (some ⟨b, off, none⟩) 2 cap] 24 (0, 0)) := heap_alloc_new _ _
  have A2 := (Below.refl (w.alloc (.cells #[.int .i64 24, .int .i64 n, .int .i64 pl, .slice (some ⟨b, off, none⟩) 2 cap] 24)).heap.size (w.alloc (.cells #[.int .i64 24, .int .i64 n, .int .i64 pl, .slice (some ⟨b, off, none⟩) 2 cap] 24))).alloc (Nat.le_refl _) (.cells #[.slice wa wn wk, .int .i64 (l : Nat)] 27)
  have pw : ((w.alloc (.cells #[.int .i64 24, .int .i64 n, .int .i64 pl, .slice (some ⟨b, off, none⟩) 2 cap] 24)).alloc (.cells #[.slice wa wn wk, .int .i64 (l : Nat)] 27)).heap[(w.alloc (.cells #[.int .i64 24, .int .i64 n, .int .i64 pl, .slice (some ⟨b, off, none⟩) 2 cap] 24)).heap.size]? = some (.cells #[.slice wa wn wk, .int .i64 (l : Nat)] 27 (0, 0)) := heap_alloc_new _ _
  replace pe := (A2.block w.heap.size (by simp)).trans pe
  have bt := below_then A A2
  go_enter Try.func11, Try.ntmps11
  go_upto_region 1 with fail
  obtain ⟨v2, hv⟩ : ∃ v, (w.alloc (.cells #[.int .i64 24, .int .i64 n, .int .i64 pl, .slice (some ⟨b, off, none⟩) 2 cap] 24)).alloc (.cells #[.slice wa wn wk, .int .i64 (l : Nat)] 27) = v := ⟨_, rfl⟩
  rw [World.size_alloc] at pw
  rw [hv] at pe pw bt ⊢
  obtain ⟨ge, hge⟩ : ∃ g, w.heap.size = g := ⟨_, rfl⟩
  rw [hge] at pe pw ⊢
  obtain ⟨gw, hgw⟩ : ∃ g, ge + 1 = g := ⟨_, rfl⟩
  rw [hgw] at pw ⊢
  have hgE : w.heap.size ≤ ge := Nat.le_of_eq hge
  have hgW : w.heap.size ≤ gw := by omega
  clear hv hge hgw A A2
  have hlv : b < v2.heap.size := Nat.lt_of_lt_of_le hlt bt.size
  have hev : ge < v2.heap.size := (Array.getElem?_eq_some_iff.1 pe).1
  have hwv : gw < v2.heap.size := (Array.getElem?_eq_some_iff.1 pw).1
  have e0 : v2.cell? ⟨ge, 0, none⟩ = some (.int .i64 24) := cell_of_row _ _ 0 _ _ _ pe
  go_upto_region 3 with fail
  clear e0
  go_cut [5] from 13 to 18 (fun v5 w' => ∃ gA ga : Nat, v5 = .pointer (some ⟨gA, 0, none⟩) ∧ v2.heap.size ≤ gA ∧ w'.heap[gA]? = some (.cells #[.slice (some ⟨ga, 0, none⟩) wn wn] 32 (0, 0)) ∧ BoolsAt w' ga wn (hT wn l row (sub 0)) ∧ Below v2.heap.size v2 w')
  case first =>
    have neE : ge ≠ v2.heap.size := Nat.ne_of_lt hev
    have neW : gw ≠ v2.heap.size := Nat.ne_of_lt hwv
    have neB : b ≠ v2.heap.size := Nat.ne_of_lt hlv
    have bD : Below v2.heap.size v2 v2.drew := (Below.refl _ _).drew
    have bA : Below v2.heap.size v2 (v2.alloc (.cells #[.slice none 0 0] 32)).drew := ((Below.refl _ _).alloc (Nat.le_refl _) _).drew
    have x3D : v2.drew.cell? ⟨ge, 3, none⟩ = some (.slice (some ⟨b, off, none⟩) 2 cap) := (cell_of_row _ _ 3 _ _ _ pe)
    have x3A : (v2.alloc (.cells #[.slice none 0 0] 32)).drew.cell? ⟨ge, 3, none⟩ = some (.slice (some ⟨b, off, none⟩) 2 cap) := (bA.cell (p := ⟨ge, 3, none⟩) hev).trans (cell_of_row _ _ 3 _ _ _ pe)
    have z0D : v2.drew.cell? ⟨b, off, none⟩ = some (.int .i64 o0) := ((bt.cell (p := ⟨b, _, none⟩) hlt).trans y00)
    have z0A : (v2.alloc (.cells #[.slice none 0 0] 32)).drew.cell? ⟨b, off, none⟩ = some (.int .i64 o0) := (bA.cell (p := ⟨b, off, none⟩) hlv).trans ((bt.cell (p := ⟨b, _, none⟩) hlt).trans y00)
    have z1D : v2.drew.cell? ⟨b, off + 1, none⟩ = some (.int .i64 n0) := ((bt.cell (p := ⟨b, _, none⟩) hlt).trans y01)
    have z1A : (v2.alloc (.cells #[.slice none 0 0] 32)).drew.cell? ⟨b, off + 1, none⟩ = some (.int .i64 n0) := (bA.cell (p := ⟨b, off + 1, none⟩) hlv).trans ((bt.cell (p := ⟨b, _, none⟩) hlt).trans y01)
    have z2D : v2.drew.cell? ⟨b, off + 2, none⟩ = some (.int .i64 p0) := ((bt.cell (p := ⟨b, _, none⟩) hlt).trans y02)
    have z2A : (v2.alloc (.cells #[.slice none 0 0] 32)).drew.cell? ⟨b, off + 2, none⟩ = some (.int .i64 p0) := (bA.cell (p := ⟨b, off + 2, none⟩) hlv).trans ((bt.cell (p := ⟨b, _, none⟩) hlt).trans y02)
    have z3D : v2.drew.cell? ⟨b, off + 3, none⟩ = some (.slice a0 l0 c0) := ((bt.cell (p := ⟨b, _, none⟩) hlt).trans y03)
    have z3A : (v2.alloc (.cells #[.slice none 0 0] 32)).drew.cell? ⟨b, off + 3, none⟩ = some (.slice a0 l0 c0) := (bA.cell (p := ⟨b, off + 3, none⟩) hlv).trans ((bt.cell (p := ⟨b, _, none⟩) hlt).trans y03)
    have u0D : v2.drew.cell? ⟨gw, 0, none⟩ = some (.slice wa wn wk) := (cell_of_row _ _ 0 _ _ _ pw)
    have u0A : (v2.alloc (.cells #[.slice none 0 0] 32)).drew.cell? ⟨gw, 0, none⟩ = some (.slice wa wn wk) := (bA.cell (p := ⟨gw, 0, none⟩) hwv).trans (cell_of_row _ _ 0 _ _ _ pw)
    have u1D : v2.drew.cell? ⟨gw, 1, none⟩ = some (.int .i64 (l : Nat)) := (cell_of_row _ _ 1 _ _ _ pw)
    have u1A : (v2.alloc (.cells #[.slice none 0 0] 32)).drew.cell? ⟨gw, 1, none⟩ = some (.int .i64 (l : Nat)) := (bA.cell (p := ⟨gw, 1, none⟩) hwv).trans (cell_of_row _ _ 1 _ _ _ pw)
    have hI1 := A0 v2.drew _ wa wn wk l row (t0.mono (below_then bt bD)) (hr.mono (below_then bt bD)) HF0.out hwn hl
    have hI2 := A0 (v2.alloc (.cells #[.slice none 0 0] 32)).drew _ wa wn wk l row (t0.mono (below_then bt bA)) (hr.mono (below_then bt bA)) HF0.out hwn hl
    have hzA : (v2.alloc (.cells #[.slice none 0 0] 32)).drew.heap[v2.heap.size]? = some (.cells #[.slice none 0 0] 32 (0, 0)) := heap_alloc_new v2 _
    go_region_held3 (fun w' => w'.cell? ⟨ge, 3, none⟩ = some (.slice (some ⟨b, off, none⟩) 2 cap) ∧ w'.cell? ⟨b, off, none⟩ = some (.int .i64 o0) ∧ w'.cell? ⟨b, off + 1, none⟩ = some (.int .i64 n0) ∧ w'.cell? ⟨b, off + 2, none⟩ = some (.int .i64 p0) ∧ w'.cell? ⟨b, off + 3, none⟩ = some (.slice a0 l0 c0) ∧ w'.cell? ⟨gw, 0, none⟩ = some (.slice wa wn wk) ∧ w'.cell? ⟨gw, 1, none⟩ = some (.int .i64 (l : Nat)))
      (first | (refine ⟨?_, ?_, ?_, ?_, ?_, ?_, ?_⟩ <;> with_reducible assumption) | (refine ⟨?_, ?_, ?_, ?_, ?_, ?_, ?_⟩; with_reducible exact cellAlloc _ _ rx3; with_reducible exact cellAlloc _ _ rz0; with_reducible exact cellAlloc _ _ rz1; with_reducible exact cellAlloc _ _ rz2; with_reducible exact cellAlloc _ _ rz3; with_reducible exact cellAlloc _ _ ru0; with_reducible exact cellAlloc _ _ ru1) | (refine ⟨?_, ?_, ?_, ?_, ?_, ?_, ?_⟩; with_reducible exact cellSet _ _ _ neE rx3; with_reducible exact cellSet _ _ _ neB rz0; with_reducible exact cellSet _ _ _ neB rz1; with_reducible exact cellSet _ _ _ neB rz2; with_reducible exact cellSet _ _ _ neB rz3; with_reducible exact cellSet _ _ _ neW ru0; with_reducible exact cellSet _ _ _ neW ru1))
      (first | (go_at_call 11; ((with_reducible refine hI2.mono ?_); rintro e ws ⟨⟨ga, rfl, hga, hra⟩, bz⟩; have bw : Below v2.heap.size v2 ws := below_then bA bz; have HRA := Lib.hid hra; clear hra; have rx3 : ws.cell? ⟨ge, 3, none⟩ = some (.slice (some ⟨b, off, none⟩) 2 cap) := (bz.cell (p := ⟨ge, 3, none⟩) (by show ge < _; have := bA.size; omega)).trans x3A; have rz0 : ws.cell? ⟨b, off, none⟩ = some (.int .i64 o0) := (bz.cell (p := ⟨b, off, none⟩) (by show b < _; have := bA.size; omega)).trans z0A; have rz1 : ws.cell? ⟨b, off + 1, none⟩ = some (.int .i64 n0) := (bz.cell (p := ⟨b, off + 1, none⟩) (by show b < _; have := bA.size; omega)).trans z1A; have rz2 : ws.cell? ⟨b, off + 2, none⟩ = some (.int .i64 p0) := (bz.cell (p := ⟨b, off + 2, none⟩) (by show b < _; have := bA.size; omega)).trans z2A; have rz3 : ws.cell? ⟨b, off + 3, none⟩ = some (.slice a0 l0 c0) := (bz.cell (p := ⟨b, off + 3, none⟩) (by show b < _; have := bA.size; omega)).trans z3A; have ru0 : ws.cell? ⟨gw, 0, none⟩ = some (.slice wa wn wk) := (bz.cell (p := ⟨gw, 0, none⟩) (by show gw < _; have := bA.size; omega)).trans u0A; have ru1 : ws.cell? ⟨gw, 1, none⟩ = some (.int .i64 (l : Nat)) := (bz.cell (p := ⟨gw, 1, none⟩) (by show gw < _; have := bA.size; omega)).trans u1A; have gz := (bz.block v2.heap.size (by simp)).trans hzA; have gc := cell_of_row _ _ 0 _ _ _ gz; have gf := frozen_of_row ws v2.heap.size 0 _ _ gz)) | (go_at_call 11; ((with_reducible refine hI1.mono ?_); rintro e ws ⟨⟨ga, rfl, hga, hra⟩, bz⟩; have bw : Below v2.heap.size v2 ws := below_then bD bz; have HRA := Lib.hid hra; clear hra; have rx3 : ws.cell? ⟨ge, 3, none⟩ = some (.slice (some ⟨b, off, none⟩) 2 cap) := (bz.cell (p := ⟨ge, 3, none⟩) (by show ge < _; have := bD.size; omega)).trans x3D; have rz0 : ws.cell? ⟨b, off, none⟩ = some (.int .i64 o0) := (bz.cell (p := ⟨b, off, none⟩) (by show b < _; have := bD.size; omega)).trans z0D; have rz1 : ws.cell? ⟨b, off + 1, none⟩ = some (.int .i64 n0) := (bz.cell (p := ⟨b, off + 1, none⟩) (by show b < _; have := bD.size; omega)).trans z1D; have rz2 : ws.cell? ⟨b, off + 2, none⟩ = some (.int .i64 p0) := (bz.cell (p := ⟨b, off + 2, none⟩) (by show b < _; have := bD.size; omega)).trans z2D; have rz3 : ws.cell? ⟨b, off + 3, none⟩ = some (.slice a0 l0 c0) := (bz.cell (p := ⟨b, off + 3, none⟩) (by show b < _; have := bD.size; omega)).trans z3D; have ru0 : ws.cell? ⟨gw, 0, none⟩ = some (.slice wa wn wk) := (bz.cell (p := ⟨gw, 0, none⟩) (by show gw < _; have := bD.size; omega)).trans u0D; have ru1 : ws.cell? ⟨gw, 1, none⟩ = some (.int .i64 (l : Nat)) := (bz.cell (p := ⟨gw, 1, none⟩) (by show gw < _; have := bD.size; omega)).trans u1D)))
    all_goals
      go_wp2_with fail
      go_meet
      have al := (Below.refl ws.heap.size ws).alloc (Nat.le_refl _) (.cells #[Value.slice (some ⟨ga, 0, none⟩) wn wn] 32)
      first
      | exact ⟨ws.heap.size, ga, rfl, bw.size, heap_alloc_new _ _, HRA.out.mono al, below_then bw al⟩
      | exact ⟨v2.heap.size, ga, rfl, Nat.le_refl _, one_row _ _ _ _ _ gz, HRA.out.other (Below.heap_setCell _ _ _ _ (show ga ≠ v2.heap.size by simp at hga; omega)), bw.setCell (Nat.le_refl _) _⟩
  case rest =>
    obtain ⟨gA, ga, rfl, hgA, pa, ra, bx⟩ := hcut
    have pe1 := (bx.block ge hev).trans pe
    have pw1 := (bx.block gw hwv).trans pw
    have bt1 := below_then bt bx
    have cA : wc.cell? ⟨gA, 0, none⟩ = some (.slice (some ⟨ga, 0, none⟩) wn wn) := cell_of_row _ _ 0 _ _ _ pa
    have bB := (Below.refl wc.heap.size wc).alloc (Nat.le_refl _) (.cells #[Value.slice (some ⟨ga, 0, none⟩) wn wn] 32)
    have pB : (wc.alloc (.cells #[Value.slice (some ⟨ga, 0, none⟩) wn wn] 32)).heap[wc.heap.size]? = some (.cells #[Value.slice (some ⟨ga, 0, none⟩) wn wn] 32 (0, 0)) := heap_alloc_new _ _
    have hAl := (Array.getElem?_eq_some_iff.1 pa).1
    have hGAl := World.rowIs.lt ra
    have pe2 := (bB.block ge (Nat.lt_of_lt_of_le hev bx.size)).trans pe1
    have pw2 := (bB.block gw (Nat.lt_of_lt_of_le hwv bx.size)).trans pw1
    have pA2 := (bB.block gA hAl).trans pa
    have ra2 := ra.mono bB
    have bt2 := below_then bt1 bB
    have hgs := bt1.size
    go_upto_region 5 with fail
    obtain ⟨v3, hv⟩ : ∃ v, wc.alloc (.cells #[Value.slice (some ⟨ga, 0, none⟩) wn wn] 32) = v := ⟨_, rfl⟩
    obtain ⟨gB, hg⟩ : ∃ g, wc.heap.size = g := ⟨_, rfl⟩
    rw [hv] at pB pe2 pw2 pA2 ra2 bt2 ⊢
    rw [hg] at pB hAl hgs hGAl ⊢
    have hGAB : ga ≠ gB := Nat.ne_of_lt hGAl
    have hAB : gA ≠ gB := Nat.ne_of_lt hAl
    have heB : ge ≠ gB := by have := bx.size; omega
    have hwB : gw ≠ gB := by have := bx.size; omega
    have hbB : b ≠ gB := by have := bx.size; omega
    have RA := Lib.hid ra2
    clear hv hg bB pe pw pe1 pw1 pa bx bt1 ra ra2 cA
    have e3 : v3.cell? ⟨ge, 3, none⟩ = some (.slice (some ⟨b, off, none⟩) 2 cap) := cell_of_row _ _ 3 _ _ _ pe2
    go_upto_region 6 with fail
    clear e3
    go_cut [6] from 24 to 29 (fun v6 w' => ∃ gb : Nat, v6 = .pointer (some ⟨gB, 0, none⟩) ∧ w'.heap[gB]? = some (.cells #[.slice (some ⟨gb, 0, none⟩) wn wn] 32 (0, 0)) ∧ BoolsAt w' gb wn (hT wn l row (sub 1)) ∧ w'.heap[ge]? = some (.cells #[.int .i64 24, .int .i64 n, .int .i64 pl, .slice (some ⟨b, off, none⟩) 2 cap] 24 (0, 0)) ∧ w'.heap[gw]? = some (.cells #[.slice wa wn wk, .int .i64 (l : Nat)] 27 (0, 0)) ∧ w'.heap[gA]? = some (.cells #[.slice (some ⟨ga, 0, none⟩) wn wn] 32 (0, 0)) ∧ BoolsAt w' ga wn (hT wn l row (sub 0)) ∧ Below w.heap.size w w')
    case first =>
      have bD : Below v3.heap.size v3 v3.drew := (Below.refl _ _).drew
      have hev3 : ge < v3.heap.size := (Array.getElem?_eq_some_iff.1 pe2).1
      have hwv3 : gw < v3.heap.size := (Array.getElem?_eq_some_iff.1 pw2).1
      have hAv3 : gA < v3.heap.size := (Array.getElem?_eq_some_iff.1 pA2).1
      have hBv3 : gB < v3.heap.size := (Array.getElem?_eq_some_iff.1 pB).1
      have hlv3 : b < v3.heap.size := Nat.lt_of_lt_of_le hlt bt2.size
      have x3D : v3.drew.cell? ⟨ge, 3, none⟩ = some (.slice (some ⟨b, off, none⟩) 2 cap) := (cell_of_row _ _ 3 _ _ _ pe2)
      have z0D : v3.drew.cell? ⟨b, off + 4, none⟩ = some (.int .i64 o1) := ((bt2.cell (p := ⟨b, _, none⟩) hlt).trans y10)
      have z1D : v3.drew.cell? ⟨b, off + 5, none⟩ = some (.int .i64 n1) := ((bt2.cell (p := ⟨b, _, none⟩) hlt).trans y11)
      have z2D : v3.drew.cell? ⟨b, off + 6, none⟩ = some (.int .i64 p1) := ((bt2.cell (p := ⟨b, _, none⟩) hlt).trans y12)
      have z3D : v3.drew.cell? ⟨b, off + 7, none⟩ = some (.slice a1 l1 c1) := ((bt2.cell (p := ⟨b, _, none⟩) hlt).trans y13)
      have u0D : v3.drew.cell? ⟨gw, 0, none⟩ = some (.slice wa wn wk) := (cell_of_row _ _ 0 _ _ _ pw2)
      have u1D : v3.drew.cell? ⟨gw, 1, none⟩ = some (.int .i64 (l : Nat)) := (cell_of_row _ _ 1 _ _ _ pw2)
      have hI1 := A1 v3.drew _ wa wn wk l row (t1.mono (below_then bt2 bD)) (hr.mono (below_then bt2 bD)) HF1.out hwn hl
      go_region_held3 (fun w' => w'.cell? ⟨ge, 3, none⟩ = some (.slice (some ⟨b, off, none⟩) 2 cap) ∧ w'.cell? ⟨b, off + 4, none⟩ = some (.int .i64 o1) ∧ w'.cell? ⟨b, off + 5, none⟩ = some (.int .i64 n1) ∧ w'.cell? ⟨b, off + 6, none⟩ = some (.int .i64 p1) ∧ w'.cell? ⟨b, off + 7, none⟩ = some (.slice a1 l1 c1) ∧ w'.cell? ⟨gw, 0, none⟩ = some (.slice wa wn wk) ∧ w'.cell? ⟨gw, 1, none⟩ = some (.int .i64 (l : Nat)))
        (first | (refine ⟨?_, ?_, ?_, ?_, ?_, ?_, ?_⟩ <;> with_reducible assumption) | (refine ⟨?_, ?_, ?_, ?_, ?_, ?_, ?_⟩; with_reducible exact cellSet _ _ _ heB rx3; with_reducible exact cellSet _ _ _ hbB rz0; with_reducible exact cellSet _ _ _ hbB rz1; with_reducible exact cellSet _ _ _ hbB rz2; with_reducible exact cellSet _ _ _ hbB rz3; with_reducible exact cellSet _ _ _ hwB ru0; with_reducible exact cellSet _ _ _ hwB ru1))
        ((go_at_call 11; ((with_reducible refine hI1.mono ?_); rintro e ws ⟨⟨gb, rfl, hgb, hrb⟩, bz⟩; have bw : Below v3.heap.size v3 ws := below_then bD bz; have HRB := Lib.hid hrb; clear hrb; have gz := (bz.block gB (by show gB < _; have := bD.size; omega)).trans pB; have gc := cell_of_row _ _ 0 _ _ _ gz; have gf := frozen_of_row ws gB 0 _ _ gz; have rx3 : ws.cell? ⟨ge, 3, none⟩ = some (.slice (some ⟨b, off, none⟩) 2 cap) := (bz.cell (p := ⟨ge, 3, none⟩) (by show ge < _; have := bD.size; omega)).trans x3D; have rz0 : ws.cell? ⟨b, off + 4, none⟩ = some (.int .i64 o1) := (bz.cell (p := ⟨b, off + 4, none⟩) (by show b < _; have := bD.size; omega)).trans z0D; have rz1 : ws.cell? ⟨b, off + 5, none⟩ = some (.int .i64 n1) := (bz.cell (p := ⟨b, off + 5, none⟩) (by show b < _; have := bD.size; omega)).trans z1D; have rz2 : ws.cell? ⟨b, off + 6, none⟩ = some (.int .i64 p1) := (bz.cell (p := ⟨b, off + 6, none⟩) (by show b < _; have := bD.size; omega)).trans z2D; have rz3 : ws.cell? ⟨b, off + 7, none⟩ = some (.slice a1 l1 c1) := (bz.cell (p := ⟨b, off + 7, none⟩) (by show b < _; have := bD.size; omega)).trans z3D; have ru0 : ws.cell? ⟨gw, 0, none⟩ = some (.slice wa wn wk) := (bz.cell (p := ⟨gw, 0, none⟩) (by show gw < _; have := bD.size; omega)).trans u0D; have ru1 : ws.cell? ⟨gw, 1, none⟩ = some (.int .i64 (l : Nat)) := (bz.cell (p := ⟨gw, 1, none⟩) (by show gw < _; have := bD.size; omega)).trans u1D)))
      all_goals
        go_wp2_with fail
        go_meet
        have hgb2 : gb ≠ gB := by have := bD.size; omega
        have hgaB : ga ≠ gB := hGAB
        exact ⟨gb, rfl, one_row _ _ _ _ _ gz, HRB.out.other (Below.heap_setCell _ _ _ _ (show gb ≠ gB from hgb2)), (Below.heap_setCell _ _ _ _ (show ge ≠ gB from heB)).trans ((bw.block ge hev3).trans pe2), (Below.heap_setCell _ _ _ _ (show gw ≠ gB from hwB)).trans ((bw.block gw hwv3).trans pw2), (Below.heap_setCell _ _ _ _ (show gA ≠ gB from hAB)).trans ((bw.block gA hAv3).trans pA2), (RA.out.mono bw).other (Below.heap_setCell _ _ _ _ (show ga ≠ gB from hgaB)), (below_then bt2 bw).setCell (show w.heap.size ≤ gB from hgs) _⟩
    case rest =>
      obtain ⟨gb, rfl, pb4, rb4, pe4, pw4, pA4, ra4, bt4⟩ := hcut
      have RB := Lib.hid rb4
      have RA4 := Lib.hid ra4
      clear rb4 ra4 pB pe2 pw2 pA2 RA bt2
      have e0 : wc.cell? ⟨ge, 0, none⟩ = some (.int .i64 24) := cell_of_row _ _ 0 _ _ _ pe4
      have w0 : wc.cell? ⟨gw, 0, none⟩ = some (.slice wa wn wk) := cell_of_row _ _ 0 _ _ _ pw4
      have w1 : wc.cell? ⟨gw, 1, none⟩ = some (.int .i64 (l : Nat)) := cell_of_row _ _ 1 _ _ _ pw4
      have HBT := Lib.hid bt4
      go_wp2_with fail
      refine (still_gen wc wa wn wk l true 44 #[.pointer (some ⟨gB, 0, none⟩), .pointer (some ⟨gA, 0, none⟩)] (fun i x => (hT wn l row (sub 1)) i && ((hT wn l row (sub 0)) i || x)) (relU wn l (hT wn l row (sub 0)) (hT wn l row (sub 1))) (enters_of Try.func44 (by kernel_rfl) rfl) hwn hl (fun z i hi x => cl_rel z.w gA ga gB gb wn (hT wn l row (sub 0)) (hT wn l row (sub 1)) i x hi hwn (cell_of_row _ _ 0 _ _ _ ((z.below.block gA (Array.getElem?_eq_some_iff.1 pA4).1).trans pA4)) (RA4.out.mono z.below) (cell_of_row _ _ 0 _ _ _ ((z.below.block gB (Array.getElem?_eq_some_iff.1 pb4).1).trans pb4)) (RB.out.mono z.below)) (fun i x y hxy h => by revert hxy h; simp only []; cases (hT wn l row (sub 0)) i <;> cases (hT wn l row (sub 1)) i <;> cases x <;> cases y <;> simp) (fun i hi => by rw [relU_fix] <;> simp) (fun R hR i hi hne => relU_most (a := (hT wn l row (sub 0))) (b := (hT wn l row (sub 1))) (R := R) hl hR i hi hne)).mono ?_
      rintro e w9 ⟨hout, b9⟩
      have hout2 := Lib.hid (hout.up (w := w) (h := hT wn l row (.node 24 n pl 2 sub)) HBT.out.size (fun i hi => (hT_24 wn l row n pl 2 sub i).symm))
      obtain ⟨g9, rfl, _, _⟩ := hout
      have bt9 := below_then HBT.out b9
      clear e0 w0 w1
      go_wp2_with fail
      go_ret
      exact ⟨hout2.out, bt9⟩
end Go.Proofs.Ytogdfjcgcdbnaaa
