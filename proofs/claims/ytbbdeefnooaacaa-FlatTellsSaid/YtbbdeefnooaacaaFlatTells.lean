/- FlatTells returns true (by gen06z.py). -/
import Derived.Test.YtbbdeefnooaacaaFlatK
namespace Go.Proofs.Ytbbdeefnooaacaa
open Go.RowKit
set_option linter.unusedVariables false
set_option linter.unusedSimpArgs false
set_option maxRecDepth 100000 in
set_option maxHeartbeats 8000000 in
theorem flattells_any (w : World) (most : Int) (al : Option Addr) (n cl : Nat) (fA : Nat → ActD) (hA : ActsAt w al n fA) :
    Calls Try.prog 3 #[.int .i64 most, .slice al n cl] w fun e w' => e = .returned (.bool true) ∧ Below w.heap.size w w' := by
  have nb := hA.small
  go_enter Try.func3, Try.ntmps3
  go_wp2_with fail
  refine (shown_any _).mono ?_
  rintro e w0 ⟨rfl, bt⟩
  go_wp2_with fail
  refine (few_any _ al n cl fA 60 (hA.mono bt)).mono ?_
  rintro e w00 ⟨⟨fb, rfl, hfew⟩, rfl⟩
  cases fb with
  | false =>
    go_wp2_with fail
    go_ret
    exact ⟨rfl, bt⟩
  | true =>
  obtain ⟨n60, hkl⟩ := hfew rfl
  have HKL := Lib.hid hkl
  clear hfew hkl
  obtain ⟨M, E, hME, hn1, hn2⟩ := new_evF most
  have HN1 := Lib.hid hn1
  have HN2 := Lib.hid hn2
  have HME := Lib.hid hME
  clear hn1 hn2 hME
  go_wp2_with fail
  refine (HN1.out _).mono ?_
  rintro e w1 ⟨rfl, b1⟩
  replace bt := below_then bt b1
  have hB := bt.size
  have A := (Below.refl w1.heap.size w1).alloc (Nat.le_refl _) (.cells #[.int .i64 M, .slice none 0 0, .slice none 0 0, .slice none 0 0] 31)
  have pt : (w1.alloc (.cells #[.int .i64 M, .slice none 0 0, .slice none 0 0, .slice none 0 0] 31)).heap[w1.heap.size]? = some (.cells #[.int .i64 M, .slice none 0 0, .slice none 0 0, .slice none 0 0] 31 (0, 0)) := heap_alloc_new _ _
  replace bt := below_then bt A
  go_upto_region 5 with fail
  obtain ⟨v1, hv⟩ : ∃ v, w1.alloc (.cells #[.int .i64 M, .slice none 0 0, .slice none 0 0, .slice none 0 0] 31) = v := ⟨_, rfl⟩
  obtain ⟨gt, hg⟩ : ∃ g, w1.heap.size = g := ⟨_, rfl⟩
  rw [hv] at pt bt ⊢
  rw [hg] at pt ⊢
  rw [hg] at hB
  clear hv hg A b1
  go_wp2_with fail
  refine (HN2.out _).mono ?_
  rintro e w1 ⟨rfl, b1⟩
  replace pt := (b1.block gt (Array.getElem?_eq_some_iff.1 pt).1).trans pt
  replace bt := below_then bt b1
  clear b1
  have hBd := bt.size
  have hne : gt < w1.heap.size := (Array.getElem?_eq_some_iff.1 pt).1
  have A := (Below.refl w1.heap.size w1).alloc (Nat.le_refl _) (.cells #[.int .i64 M, .slice none 0 0, .slice none 0 0] 37)
  have pd : (w1.alloc (.cells #[.int .i64 M, .slice none 0 0, .slice none 0 0] 37)).heap[w1.heap.size]? = some (.cells #[.int .i64 M, .slice none 0 0, .slice none 0 0] 37 (0, 0)) := heap_alloc_new _ _
  replace pt := (A.block gt (Array.getElem?_eq_some_iff.1 pt).1).trans pt
  replace bt := below_then bt A
  go_upto_region 6 with fail
  obtain ⟨v2, hv⟩ : ∃ v, w1.alloc (.cells #[.int .i64 M, .slice none 0 0, .slice none 0 0] 37) = v := ⟨_, rfl⟩
  obtain ⟨gd, hg⟩ : ∃ g, w1.heap.size = g := ⟨_, rfl⟩
  rw [hv] at pd pt bt ⊢
  rw [hg] at pd ⊢
  rw [hg] at hBd hne
  clear hv hg A HN1 HN2
  rcases HME.out with ⟨hM0, hM1, rfl⟩ | rfl
  case inr =>
    have c0 : v2.cell? ⟨gt, 0, none⟩ = some (.int .i64 M) := cell_of_row _ _ 0 _ _ _ pt
    have c1 : v2.cell? ⟨gt, 1, none⟩ = some (.slice none 0 0) := cell_of_row _ _ 1 _ _ _ pt
    have c2 : v2.cell? ⟨gt, 2, none⟩ = some (.slice none 0 0) := cell_of_row _ _ 2 _ _ _ pt
    have c3 : v2.cell? ⟨gt, 3, none⟩ = some (.slice none 0 0) := cell_of_row _ _ 3 _ _ _ pt
    go_wp2_with fail
    refine (manyF_any _ M none 0 0 none 0 0 (.slice none 0 0) (by omega)).mono ?_
    rintro e w3 ⟨rfl, b3⟩
    replace bt := below_then bt b3
    go_wp2_with fail
    go_ret
    exact ⟨rfl, bt⟩
  obtain ⟨N, rfl⟩ := Int.eq_ofNat_of_zero_le hM0
  clear HME hM0
  have Mt := TabM.empty v2 w.heap.size
  have Dp := docF_nil v2
  have Da : DocAt v2 gd none none none := ⟨(fun x y h => by rcases h with h | h <;> cases h), (fun y h => by cases h)⟩
  have hL := BytesAt.none_nil v2
  have hS := SameB.nil
  go_wp2_with fail
  go_loopw [10] (fun i w' => ∃ (j m : Nat) (ka : Option Addr) (kc : Nat) (sa : Option Addr) (sl sc : Nat) (fa : Option Addr) (fl fc : Nat) (L : List Nat) (KS : List (List Nat)) (s : List Int) (rs : List (Nat × Nat)) (dk df : Option Addr) (ck cf : Nat) (FL : List (Bool × Bool)), j ≤ n ∧ i = .int .i64 (j : Nat) ∧ KS.Nodup ∧ L.length ≤ KS.length ∧ SameB L FL ∧ w'.heap[gt]? = some (.cells #[.int .i64 (N : Nat), .slice ka m kc, .slice sa sl sc, .slice fa fl fc] 31 (0, 0)) ∧ w'.heap[gd]? = some (.cells #[.int .i64 (N : Nat), .slice dk m ck, .slice df m cf] 37 (0, 0)) ∧ TabM w' w.heap.size ka m kc sa sl sc KS s rs ∧ BytesAt w' fa fl fc L ∧ DocF w' dk m (.slice df m cf) KS FL ∧ DocAt w' gd ka sa dk ∧ Below w.heap.size w w') (fun i _ => n - (intOf i).toNat)
  case atStart => exact ⟨0, 0, none, 0, none, 0, 0, none, 0, 0, [], [], [], [], none, none, 0, 0, [], Nat.zero_le _, rfl, List.nodup_nil, Nat.le_refl _, hS, pt, pd, Mt, hL, Dp, Da, bt⟩
  case round =>
    clear pt pd Mt Dp Da hL hS bt
    obtain ⟨j, m, ka, kc, sa, sl, sc, fa, fl, fc, L, KS, s, rs, dk, df, ck, cf, FL, hj, rfl, hnd, hlk, hS, pt, pd, Mt, hL, Dp, Da, bt⟩ := hrel
    by_cases hjn : j < n
    case neg =>
      have f3 : decide (j < n) = false := by simpa using hjn
      go_wp2_with fail
      go_ret
      exact ⟨rfl, bt⟩
    have f3 : decide (j < n) = true := by simpa using hjn
    obtain ⟨bl, ol, rfl, hbl, hact⟩ := hA.at_.resolve_left (by omega)
    have hx := (hact j hjn).mono hbl bt
    have hxl := HKL.out j hjn
    obtain ⟨⟨k0, xa, xl, xc, xk, xf⟩, hu⟩ : ∃ u, fA j = u := ⟨_, rfl⟩
    rw [hu] at hx hxl
    simp only [] at hxl
    have hblr : bl < wr.heap.size := Nat.lt_of_lt_of_le hbl bt.size
    have hk0 := hx.kd256
    simp only [] at hk0
    have hkx : BytesAt wr xa xl xc xk := hx.key
    have y0 : wr.cell? ⟨bl, ol + j * 3, none⟩ = some (.int .u8 (k0 : Nat)) := hx.c0
    have y1 : wr.cell? ⟨bl, ol + j * 3 + 1, none⟩ = some (.slice xa xl xc) := hx.c1
    have y2 : wr.cell? ⟨bl, ol + j * 3 + 2, none⟩ = some (.int .i64 xf) := hx.c2
    have HX := Lib.hid hx
    have HND := Lib.hid hnd
    have HSB := Lib.hid hS
    have HLK := Lib.hid hlk
    have hm20 := Mt.rd.small
    have hLq := hL.len_eq
    have hKq := Mt.rd.len
    have hFq := Dp.len
    clear hact hu hx hnd hS
    have l_gt := (Array.getElem?_eq_some_iff.1 pt).1
    have l_gd := (Array.getElem?_eq_some_iff.1 pd).1
    have A := (Below.refl wr.heap.size wr).alloc (Nat.le_refl _) (.cells #[.int .u8 (k0 : Nat), .slice xa xl xc, .int .i64 xf] 42)
    have pa : (wr.alloc (.cells #[.int .u8 (k0 : Nat), .slice xa xl xc, .int .i64 xf] 42)).heap[wr.heap.size]? = some (.cells #[.int .u8 (k0 : Nat), .slice xa xl xc, .int .i64 xf] 42 (0, 0)) := heap_alloc_new _ _
    replace pt := (A.block gt (Array.getElem?_eq_some_iff.1 pt).1).trans pt
    replace pd := (A.block gd (Array.getElem?_eq_some_iff.1 pd).1).trans pd
    replace Mt := Mt.mono A
    replace hL := hL.mono A
    replace Dp := Dp.mono A
    replace hkx := hkx.mono A
    replace bt := below_then bt A
    go_upto_region 14 with fail
    obtain ⟨v3, hv⟩ : ∃ v, wr.alloc (.cells #[.int .u8 (k0 : Nat), .slice xa xl xc, .int .i64 xf] 42) = v := ⟨_, rfl⟩
    obtain ⟨ga, hg⟩ : ∃ g, wr.heap.size = g := ⟨_, rfl⟩
    rw [hv] at pa pt pd Mt hL Dp hkx bt ⊢
    rw [hg] at pa ⊢
    rw [hg] at l_gt l_gd
    replace Da := Da.size A.size
    rw [hv] at Da
    clear hv hg A y0 y1 y2
    have a0 : v3.cell? ⟨ga, 0, none⟩ = some (.int .u8 (k0 : Nat)) := cell_of_row _ _ 0 _ _ _ pa
    go_upto_region 15 with fail
    obtain ⟨qk, hq, hq3⟩ : ∃ q : Nat, ((k0 : Nat) : Int) % 3 = (q : Int) ∧ q < 3 := ⟨k0 % 3, by omega, by omega⟩
    rw [hq]
    clear hq a0
    rcases (by omega : qk = 0 ∨ qk = 1 ∨ qk = 2) with rfl | rfl | rfl
    · have a1 : v3.cell? ⟨ga, 1, none⟩ = some (.slice xa xl xc) := cell_of_row _ _ 1 _ _ _ pa
      go_wp2_with (first | (refine wpList_load_row rfl 31 _ rfl gt rfl 31 _ _ _ pt Try.underlying31 rfl (by kernel_rfl) ?_) | fail)
      refine (insertF_all _ (N : Nat) (by omega) (by omega) w.heap.size ka m kc sa sl sc fa fl fc KS s rs Mt bt.size xa xl xc xk hkx (by omega) HND.out).mono ?_
      rintro e w3 ⟨kz, mz, kcz, sz, slz, scz, KZ, sZ, rsZ, p, F, E, rfl, Mx, Mo, bx, HT, hout, hst⟩
      clear a1
      replace pt := HT.recd gt _ _ _ pt (by decide) (by decide)
      replace pd := HT.recd gd _ _ _ pd (by decide) (by decide)
      replace pa := HT.recd ga _ _ _ pa (by decide) (by decide)
      replace hL := HT.bytes _ _ _ _ hL
      replace hkx := HT.bytes _ _ _ _ hkx
      obtain ⟨D2, A2⟩ := DocF.kept HT Dp Da
      replace bt := bt.trans bx
      clear Dp Da Mt Mo HT bx hst
      have lgx_gt := (Array.getElem?_eq_some_iff.1 pt).1
      have lgx_gd := (Array.getElem?_eq_some_iff.1 pd).1
      have lgx_ga := (Array.getElem?_eq_some_iff.1 pa).1
      have A := (Below.refl w3.heap.size w3).alloc (Nat.le_refl _) (.cells #[.int .i64 (N : Nat), .slice kz mz kcz, .slice sz slz scz, .slice fa fl fc] 31)
      have px : (w3.alloc (.cells #[.int .i64 (N : Nat), .slice kz mz kcz, .slice sz slz scz, .slice fa fl fc] 31)).heap[w3.heap.size]? = some (.cells #[.int .i64 (N : Nat), .slice kz mz kcz, .slice sz slz scz, .slice fa fl fc] 31 (0, 0)) := heap_alloc_new _ _
      replace pt := (A.block gt (Array.getElem?_eq_some_iff.1 pt).1).trans pt
      replace pd := (A.block gd (Array.getElem?_eq_some_iff.1 pd).1).trans pd
      replace pa := (A.block ga (Array.getElem?_eq_some_iff.1 pa).1).trans pa
      replace Mx := Mx.mono A
      replace hL := hL.mono A
      replace D2 := D2.mono A
      replace hkx := hkx.mono A
      replace bt := below_then bt A
      go_upto_region 17 with fail
      obtain ⟨v4, hv⟩ : ∃ v, w3.alloc (.cells #[.int .i64 (N : Nat), .slice kz mz kcz, .slice sz slz scz, .slice fa fl fc] 31) = v := ⟨_, rfl⟩
      obtain ⟨gx, hg⟩ : ∃ g, w3.heap.size = g := ⟨_, rfl⟩
      rw [hv] at px pt pd pa Mx hL D2 hkx bt ⊢
      rw [hg] at px ⊢
      replace A2 := A2.size A.size
      rw [hv] at A2
      rw [hg] at lgx_gt
      rw [hg] at lgx_gd
      rw [hg] at lgx_ga
      clear hv hg A
      have a1 : v4.cell? ⟨ga, 1, none⟩ = some (.slice xa xl xc) := cell_of_row _ _ 1 _ _ _ pa
      go_wp2_with (first | (refine wpList_load_row rfl 37 _ rfl gd rfl 37 _ _ _ pd Try.underlying37 rfl (by kernel_rfl) ?_) | fail)
      refine (refinsertF_ev _ (N : Nat) (by omega) dk df m ck cf KS FL D2 hm20 xa xl xc xk hkx (by omega)).mono ?_
      rintro e w4 ⟨dy, ny, cy, ey, fy, K2, FZ, G, D, rfl, Dy, b4, hdk, hds⟩
      have A3 := A2.grow (fun y hy => hy.elim (fun h => (Mx.lt.1 y h).1) (fun h => (Mx.lt.2 y h).1)) (Array.getElem?_eq_some_iff.1 pd).1 b4.size hdk
      clear a1 D2 A2 hdk
      replace pt := (b4.block gt (Array.getElem?_eq_some_iff.1 pt).1).trans pt
      replace pd := (b4.block gd (Array.getElem?_eq_some_iff.1 pd).1).trans pd
      replace pa := (b4.block ga (Array.getElem?_eq_some_iff.1 pa).1).trans pa
      replace px := (b4.block gx (Array.getElem?_eq_some_iff.1 px).1).trans px
      replace Mx := Mx.mono b4
      replace hL := hL.mono b4
      replace hkx := hkx.mono b4
      replace bt := below_then bt b4
      clear b4
      have lgy_gt := (Array.getElem?_eq_some_iff.1 pt).1
      have lgy_gd := (Array.getElem?_eq_some_iff.1 pd).1
      have lgy_ga := (Array.getElem?_eq_some_iff.1 pa).1
      have lgy_gx := (Array.getElem?_eq_some_iff.1 px).1
      have A := (Below.refl w4.heap.size w4).alloc (Nat.le_refl _) (.cells #[.int .i64 (N : Nat), .slice dy ny cy, .slice ey ny fy] 37)
      have py : (w4.alloc (.cells #[.int .i64 (N : Nat), .slice dy ny cy, .slice ey ny fy] 37)).heap[w4.heap.size]? = some (.cells #[.int .i64 (N : Nat), .slice dy ny cy, .slice ey ny fy] 37 (0, 0)) := heap_alloc_new _ _
      replace pt := (A.block gt (Array.getElem?_eq_some_iff.1 pt).1).trans pt
      replace pd := (A.block gd (Array.getElem?_eq_some_iff.1 pd).1).trans pd
      replace pa := (A.block ga (Array.getElem?_eq_some_iff.1 pa).1).trans pa
      replace px := (A.block gx (Array.getElem?_eq_some_iff.1 px).1).trans px
      replace Mx := Mx.mono A
      replace hL := hL.mono A
      replace Dy := Dy.mono A
      replace hkx := hkx.mono A
      replace bt := below_then bt A
      go_upto_region 18 with fail
      obtain ⟨v5, hv⟩ : ∃ v, w4.alloc (.cells #[.int .i64 (N : Nat), .slice dy ny cy, .slice ey ny fy] 37) = v := ⟨_, rfl⟩
      obtain ⟨gy, hg⟩ : ∃ g, w4.heap.size = g := ⟨_, rfl⟩
      rw [hv] at py pt pd pa px Mx hL Dy hkx bt ⊢
      rw [hg] at py ⊢
      replace A3 := A3.size A.size
      rw [hv] at A3
      rw [hg] at lgy_gt
      rw [hg] at lgy_gd
      rw [hg] at lgy_ga
      rw [hg] at lgy_gx
      clear hv hg A
      obtain ⟨rfl, rfl, rfl, hS2⟩ := insF_same hout hds
      obtain rfl : mz = ny := Mx.rd.len.symm.trans (Dy.keys.len)
      have hnd2 := hout.nodup HND.out
      have HND2 := Lib.hid hnd2
      have HSZ := Lib.hid (hS2 L HSB.out)
      have HLZ := Lib.hid (show L.length ≤ KZ.length from Nat.le_trans HLK.out hout.prefix.length_le)
      clear hout hds hS2 hnd2
      go_upto_region 20 with fail
      go_upto_region 21 with (first | (refine wpList_load_row rfl 31 _ rfl gx rfl 31 _ _ _ px Try.underlying31 rfl (by kernel_rfl) ?_) | (refine store_rec rfl 31 (.tmp 6) (.tmp 91) rfl gt #[.int .i64 (N : Nat), .slice kz mz kcz, .slice sz slz scz, .slice fa fl fc] rfl rfl 31 _ pt (by kernel_rfl) rfl (by simp [Value.oneCell']) ?_; intro w6 g6 z6 o6 b6))
      have hno6 := noU8_rec pt fun v hv m => by simp at hv; rcases hv with rfl | rfl | rfl | rfl <;> simp
      replace Mx := Mx.offrec pt hno6 (by decide) (by decide) z6 (fun b hb => o6 b hb)
      replace hL := hL.offrec hno6 z6 (fun b hb => o6 b hb)
      replace hkx := hkx.offrec hno6 z6 (fun b hb => o6 b hb)
      replace Dy := Dy.off pt (by decide) hno6 (fun x hx => by have := (A3.2 x hx).1; omega) z6 (fun b hb => o6 b hb)
      replace A3 := A3.size (Nat.le_of_eq z6.symm)
      replace pd := (o6 gd (by omega)).trans pd
      replace pa := (o6 ga (by omega)).trans pa
      replace py := (o6 gy (by omega)).trans py
      replace pt := g6
      replace bt := bt.trans (b6.mono hB)
      clear hno6 z6 o6 b6 g6 px
      go_upto_region 34 with (first | (refine wpList_load_row rfl 37 _ rfl gy rfl 37 _ _ _ py Try.underlying37 rfl (by kernel_rfl) ?_) | (refine store_rec rfl 37 (.tmp 8) (.tmp 92) rfl gd #[.int .i64 (N : Nat), .slice dy mz cy, .slice ey mz fy] rfl rfl 37 _ pd (by kernel_rfl) rfl (by simp [Value.oneCell']) ?_; intro w7 g7 z7 o7 b7))
      have hno7 := noU8_rec pd fun v hv m => by simp at hv; rcases hv with rfl | rfl | rfl <;> simp
      replace Mx := Mx.offrec pd hno7 (by decide) (by decide) z7 (fun b hb => o7 b hb)
      replace hL := hL.offrec hno7 z7 (fun b hb => o7 b hb)
      replace hkx := hkx.offrec hno7 z7 (fun b hb => o7 b hb)
      replace Dy := Dy.off pd (by decide) hno7 (fun x hx => by have := (A3.2 x hx).1; omega) z7 (fun b hb => o7 b hb)
      replace A3 := A3.size (Nat.le_of_eq z7.symm)
      replace pt := (o7 gt (by omega)).trans pt
      replace pa := (o7 ga (by omega)).trans pa
      replace pd := g7
      replace bt := bt.trans (b7.mono hBd)
      clear hno7 z7 o7 b7 g7 py
      obtain ⟨V, hV⟩ : ∃ V, decide (xk ∈ KZ) = V := ⟨_, rfl⟩
      obtain ⟨W5, hW5⟩ : ∃ v, w7 = v := ⟨_, rfl⟩
      rw [hW5] at pt pd pa Mx hL Dy A3 hkx bt ⊢
      clear hW5
      have hmz := Mx.rd.small
      have gtl := (Array.getElem?_eq_some_iff.1 pt).1
      have gdl := (Array.getElem?_eq_some_iff.1 pd).1
      have gal := (Array.getElem?_eq_some_iff.1 pa).1
      have q0 : ∀ z : Later W5.heap.size W5, z.w.cell? ⟨gt, 0, none⟩ = some (.int .i64 (N : Nat)) := fun z => cell_of_row _ _ 0 _ _ _ ((z.below.block gt gtl).trans pt)
      have q1 : ∀ z : Later W5.heap.size W5, z.w.cell? ⟨gt, 1, none⟩ = some (.slice kz mz kcz) := fun z => cell_of_row _ _ 1 _ _ _ ((z.below.block gt gtl).trans pt)
      have q2 : ∀ z : Later W5.heap.size W5, z.w.cell? ⟨gt, 2, none⟩ = some (.slice sz slz scz) := fun z => cell_of_row _ _ 2 _ _ _ ((z.below.block gt gtl).trans pt)
      have q3 : ∀ z : Later W5.heap.size W5, z.w.cell? ⟨gt, 3, none⟩ = some (.slice fa fl fc) := fun z => cell_of_row _ _ 3 _ _ _ ((z.below.block gt gtl).trans pt)
      have r0 : ∀ z : Later W5.heap.size W5, z.w.cell? ⟨gd, 0, none⟩ = some (.int .i64 (N : Nat)) := fun z => cell_of_row _ _ 0 _ _ _ ((z.below.block gd gdl).trans pd)
      have r1 : ∀ z : Later W5.heap.size W5, z.w.cell? ⟨gd, 1, none⟩ = some (.slice dy mz cy) := fun z => cell_of_row _ _ 1 _ _ _ ((z.below.block gd gdl).trans pd)
      have r2 : ∀ z : Later W5.heap.size W5, z.w.cell? ⟨gd, 2, none⟩ = some (.slice ey mz fy) := fun z => cell_of_row _ _ 2 _ _ _ ((z.below.block gd gdl).trans pd)
      have a1 : ∀ z : Later W5.heap.size W5, z.w.cell? ⟨ga, 1, none⟩ = some (.slice xa xl xc) := fun z => cell_of_row _ _ 1 _ _ _ ((z.below.block ga gal).trans pa)
      have nM := fun z : Later W5.heap.size W5 => manyF_any z.w (N : Nat) kz mz kcz sz slz scz (.slice fa fl fc) hmz
      have nU := fun z : Later W5.heap.size W5 => memberF_any z.w (N : Nat) kz mz kcz sz slz scz (.slice fa fl fc) KZ sZ rsZ (Mx.mono z.below).rd xa xl xc xk (hkx.mono z.below)
      have nD := fun z : Later W5.heap.size W5 => refmemberF_any z.w (N : Nat) dy mz cy ey mz fy KZ (Dy.mono z.below).keys xa xl xc xk (hkx.mono z.below)
      rw [hV] at nU nD
      clear hV
      cases V
      all_goals
        go_upto_region 34 with fail
        try simp only [Act.put, List.setIfInBounds_toArray, List.set_cons_zero, List.set_cons_succ]
        refine wp_region_later W5.heap.size W5 (by kernel_rfl) (by kernel_rfl) (Below.refl _ _) ?_
        repeat (go_big_quiet_step (first | (go_at_call 8; refine Calls.later0 (nM _)) | (go_at_call 15; refine Calls.later0 (nU _)) | (go_at_call 16; refine Calls.later0 (nD _))))
        refine wpQuiet_nil ?_
        intro _ hlat
        obtain ⟨z, rfl⟩ := hlat
        go_wp2_with fail
        exact ⟨⟨j + 1, mz, kz, kcz, sz, slz, scz, fa, fl, fc, L, KZ, sZ, rsZ, dy, ey, cy, fy, FZ, by omega, by simp, HND2.out, HLZ.out, HSZ.out, (z.below.block gt gtl).trans pt, (z.below.block gd gdl).trans pd, Mx.mono z.below, hL.mono z.below, Dy.mono z.below, A3.size z.below.size, below_then bt z.below⟩, by simp [intOf]; omega⟩
    · have a1 : v3.cell? ⟨ga, 1, none⟩ = some (.slice xa xl xc) := cell_of_row _ _ 1 _ _ _ pa
      have a2 : v3.cell? ⟨ga, 2, none⟩ = some (.int .i64 xf) := cell_of_row _ _ 2 _ _ _ pa
      go_wp2_with (first | (refine wpList_load_row rfl 31 _ rfl gt rfl 31 _ _ _ pt Try.underlying31 rfl (by kernel_rfl) ?_) | fail)
      refine (setF_ev _ (N : Nat) ka m kc sa sl sc fa fl fc L hL KS s rs Mt.rd xa xl xc xk hkx xf HND.out hm20 HLK.out).mono ?_
      rintro e w3 ⟨fz, flz, fcz, LZ, E, rfl, hL2, b3, hlz, hcs⟩
      clear a1 a2
      replace Da := Da.size b3.size
      replace pt := (b3.block gt (Array.getElem?_eq_some_iff.1 pt).1).trans pt
      replace pd := (b3.block gd (Array.getElem?_eq_some_iff.1 pd).1).trans pd
      replace pa := (b3.block ga (Array.getElem?_eq_some_iff.1 pa).1).trans pa
      replace Mt := Mt.mono b3
      replace Dp := Dp.mono b3
      replace hkx := hkx.mono b3
      replace bt := below_then bt b3
      clear b3
      have lgx_gt := (Array.getElem?_eq_some_iff.1 pt).1
      have lgx_gd := (Array.getElem?_eq_some_iff.1 pd).1
      have lgx_ga := (Array.getElem?_eq_some_iff.1 pa).1
      have A := (Below.refl w3.heap.size w3).alloc (Nat.le_refl _) (.cells #[.int .i64 (N : Nat), .slice ka m kc, .slice sa sl sc, .slice fz flz fcz] 31)
      have px : (w3.alloc (.cells #[.int .i64 (N : Nat), .slice ka m kc, .slice sa sl sc, .slice fz flz fcz] 31)).heap[w3.heap.size]? = some (.cells #[.int .i64 (N : Nat), .slice ka m kc, .slice sa sl sc, .slice fz flz fcz] 31 (0, 0)) := heap_alloc_new _ _
      replace pt := (A.block gt (Array.getElem?_eq_some_iff.1 pt).1).trans pt
      replace pd := (A.block gd (Array.getElem?_eq_some_iff.1 pd).1).trans pd
      replace pa := (A.block ga (Array.getElem?_eq_some_iff.1 pa).1).trans pa
      replace Mt := Mt.mono A
      replace hL2 := hL2.mono A
      replace Dp := Dp.mono A
      replace hkx := hkx.mono A
      replace bt := below_then bt A
      go_upto_region 24 with fail
      obtain ⟨v4, hv⟩ : ∃ v, w3.alloc (.cells #[.int .i64 (N : Nat), .slice ka m kc, .slice sa sl sc, .slice fz flz fcz] 31) = v := ⟨_, rfl⟩
      obtain ⟨gx, hg⟩ : ∃ g, w3.heap.size = g := ⟨_, rfl⟩
      rw [hv] at px pt pd pa Mt hL2 Dp hkx bt ⊢
      rw [hg] at px ⊢
      replace Da := Da.size A.size
      rw [hv] at Da
      rw [hg] at lgx_gt
      rw [hg] at lgx_gd
      rw [hg] at lgx_ga
      clear hv hg A
      have a1 : v4.cell? ⟨ga, 1, none⟩ = some (.slice xa xl xc) := cell_of_row _ _ 1 _ _ _ pa
      have a2 : v4.cell? ⟨ga, 2, none⟩ = some (.int .i64 xf) := cell_of_row _ _ 2 _ _ _ pa
      go_wp2_with (first | (refine wpList_load_row rfl 37 _ rfl gd rfl 37 _ _ _ pd Try.underlying37 rfl (by kernel_rfl) ?_) | fail)
      refine (refsetF_ev _ (N : Nat) dk df m ck cf KS FL Dp hm20 xa xl xc xk hkx xf).mono ?_
      intro e w4 hse
      unfold SetF at hse
      obtain ⟨ey, fy, FZ, D, rfl, Dy, b4, hds⟩ := hse
      clear a1 a2 Dp
      replace Da := Da.size b4.size
      replace pt := (b4.block gt (Array.getElem?_eq_some_iff.1 pt).1).trans pt
      replace pd := (b4.block gd (Array.getElem?_eq_some_iff.1 pd).1).trans pd
      replace pa := (b4.block ga (Array.getElem?_eq_some_iff.1 pa).1).trans pa
      replace px := (b4.block gx (Array.getElem?_eq_some_iff.1 px).1).trans px
      replace Mt := Mt.mono b4
      replace hL2 := hL2.mono b4
      replace hkx := hkx.mono b4
      replace bt := below_then bt b4
      clear b4
      have lgy_gt := (Array.getElem?_eq_some_iff.1 pt).1
      have lgy_gd := (Array.getElem?_eq_some_iff.1 pd).1
      have lgy_ga := (Array.getElem?_eq_some_iff.1 pa).1
      have lgy_gx := (Array.getElem?_eq_some_iff.1 px).1
      have A := (Below.refl w4.heap.size w4).alloc (Nat.le_refl _) (.cells #[.int .i64 (N : Nat), .slice dk m ck, .slice ey m fy] 37)
      have py : (w4.alloc (.cells #[.int .i64 (N : Nat), .slice dk m ck, .slice ey m fy] 37)).heap[w4.heap.size]? = some (.cells #[.int .i64 (N : Nat), .slice dk m ck, .slice ey m fy] 37 (0, 0)) := heap_alloc_new _ _
      replace pt := (A.block gt (Array.getElem?_eq_some_iff.1 pt).1).trans pt
      replace pd := (A.block gd (Array.getElem?_eq_some_iff.1 pd).1).trans pd
      replace pa := (A.block ga (Array.getElem?_eq_some_iff.1 pa).1).trans pa
      replace px := (A.block gx (Array.getElem?_eq_some_iff.1 px).1).trans px
      replace Mt := Mt.mono A
      replace hL2 := hL2.mono A
      replace Dy := Dy.mono A
      replace hkx := hkx.mono A
      replace bt := below_then bt A
      go_upto_region 25 with fail
      obtain ⟨v5, hv⟩ : ∃ v, w4.alloc (.cells #[.int .i64 (N : Nat), .slice dk m ck, .slice ey m fy] 37) = v := ⟨_, rfl⟩
      obtain ⟨gy, hg⟩ : ∃ g, w4.heap.size = g := ⟨_, rfl⟩
      rw [hv] at py pt pd pa px Mt hL2 Dy hkx bt ⊢
      rw [hg] at py ⊢
      replace Da := Da.size A.size
      rw [hv] at Da
      rw [hg] at lgy_gt
      rw [hg] at lgy_gd
      rw [hg] at lgy_ga
      rw [hg] at lgy_gx
      clear hv hg A
      obtain ⟨rfl, hS2⟩ := setF_same HND.out HSB.out (by omega) hcs hds
      have HSZ := Lib.hid hS2
      have HLZ := Lib.hid hlz
      clear hcs hds hS2 hlz
      go_upto_region 27 with fail
      go_upto_region 28 with (first | (refine wpList_load_row rfl 31 _ rfl gx rfl 31 _ _ _ px Try.underlying31 rfl (by kernel_rfl) ?_) | (refine store_rec rfl 31 (.tmp 6) (.tmp 116) rfl gt #[.int .i64 (N : Nat), .slice ka m kc, .slice sa sl sc, .slice fz flz fcz] rfl rfl 31 _ pt (by kernel_rfl) rfl (by simp [Value.oneCell']) ?_; intro w6 g6 z6 o6 b6))
      have hno6 := noU8_rec pt fun v hv m => by simp at hv; rcases hv with rfl | rfl | rfl | rfl <;> simp
      replace Mt := Mt.offrec pt hno6 (by decide) (by decide) z6 (fun b hb => o6 b hb)
      replace hL2 := hL2.offrec hno6 z6 (fun b hb => o6 b hb)
      replace hkx := hkx.offrec hno6 z6 (fun b hb => o6 b hb)
      replace Dy := Dy.off pt (by decide) hno6 (fun x hx => by have := (Da.2 x hx).1; omega) z6 (fun b hb => o6 b hb)
      replace Da := Da.size (Nat.le_of_eq z6.symm)
      replace pd := (o6 gd (by omega)).trans pd
      replace pa := (o6 ga (by omega)).trans pa
      replace py := (o6 gy (by omega)).trans py
      replace pt := g6
      replace bt := bt.trans (b6.mono hB)
      clear hno6 z6 o6 b6 g6 px
      go_upto_region 34 with (first | (refine wpList_load_row rfl 37 _ rfl gy rfl 37 _ _ _ py Try.underlying37 rfl (by kernel_rfl) ?_) | (refine store_rec rfl 37 (.tmp 8) (.tmp 117) rfl gd #[.int .i64 (N : Nat), .slice dk m ck, .slice ey m fy] rfl rfl 37 _ pd (by kernel_rfl) rfl (by simp [Value.oneCell']) ?_; intro w7 g7 z7 o7 b7))
      have hno7 := noU8_rec pd fun v hv m => by simp at hv; rcases hv with rfl | rfl | rfl <;> simp
      replace Mt := Mt.offrec pd hno7 (by decide) (by decide) z7 (fun b hb => o7 b hb)
      replace hL2 := hL2.offrec hno7 z7 (fun b hb => o7 b hb)
      replace hkx := hkx.offrec hno7 z7 (fun b hb => o7 b hb)
      replace Dy := Dy.off pd (by decide) hno7 (fun x hx => by have := (Da.2 x hx).1; omega) z7 (fun b hb => o7 b hb)
      replace Da := Da.size (Nat.le_of_eq z7.symm)
      replace pt := (o7 gt (by omega)).trans pt
      replace pa := (o7 ga (by omega)).trans pa
      replace pd := g7
      replace bt := bt.trans (b7.mono hBd)
      clear hno7 z7 o7 b7 g7 py
      obtain ⟨V, hV⟩ : ∃ V, decide (xk ∈ KS) = V := ⟨_, rfl⟩
      obtain ⟨W5, hW5⟩ : ∃ v, w7 = v := ⟨_, rfl⟩
      rw [hW5] at pt pd pa Mt hL2 Dy Da hkx bt ⊢
      clear hW5
      have hmz := Mt.rd.small
      have gtl := (Array.getElem?_eq_some_iff.1 pt).1
      have gdl := (Array.getElem?_eq_some_iff.1 pd).1
      have gal := (Array.getElem?_eq_some_iff.1 pa).1
      have q0 : ∀ z : Later W5.heap.size W5, z.w.cell? ⟨gt, 0, none⟩ = some (.int .i64 (N : Nat)) := fun z => cell_of_row _ _ 0 _ _ _ ((z.below.block gt gtl).trans pt)
      have q1 : ∀ z : Later W5.heap.size W5, z.w.cell? ⟨gt, 1, none⟩ = some (.slice ka m kc) := fun z => cell_of_row _ _ 1 _ _ _ ((z.below.block gt gtl).trans pt)
      have q2 : ∀ z : Later W5.heap.size W5, z.w.cell? ⟨gt, 2, none⟩ = some (.slice sa sl sc) := fun z => cell_of_row _ _ 2 _ _ _ ((z.below.block gt gtl).trans pt)
      have q3 : ∀ z : Later W5.heap.size W5, z.w.cell? ⟨gt, 3, none⟩ = some (.slice fz flz fcz) := fun z => cell_of_row _ _ 3 _ _ _ ((z.below.block gt gtl).trans pt)
      have r0 : ∀ z : Later W5.heap.size W5, z.w.cell? ⟨gd, 0, none⟩ = some (.int .i64 (N : Nat)) := fun z => cell_of_row _ _ 0 _ _ _ ((z.below.block gd gdl).trans pd)
      have r1 : ∀ z : Later W5.heap.size W5, z.w.cell? ⟨gd, 1, none⟩ = some (.slice dk m ck) := fun z => cell_of_row _ _ 1 _ _ _ ((z.below.block gd gdl).trans pd)
      have r2 : ∀ z : Later W5.heap.size W5, z.w.cell? ⟨gd, 2, none⟩ = some (.slice ey m fy) := fun z => cell_of_row _ _ 2 _ _ _ ((z.below.block gd gdl).trans pd)
      have a1 : ∀ z : Later W5.heap.size W5, z.w.cell? ⟨ga, 1, none⟩ = some (.slice xa xl xc) := fun z => cell_of_row _ _ 1 _ _ _ ((z.below.block ga gal).trans pa)
      have nM := fun z : Later W5.heap.size W5 => manyF_any z.w (N : Nat) ka m kc sa sl sc (.slice fz flz fcz) hmz
      have nU := fun z : Later W5.heap.size W5 => memberF_any z.w (N : Nat) ka m kc sa sl sc (.slice fz flz fcz) KS s rs (Mt.mono z.below).rd xa xl xc xk (hkx.mono z.below)
      have nD := fun z : Later W5.heap.size W5 => refmemberF_any z.w (N : Nat) dk m ck ey m fy KS (Dy.mono z.below).keys xa xl xc xk (hkx.mono z.below)
      rw [hV] at nU nD
      clear hV
      cases V
      all_goals
        go_upto_region 34 with fail
        try simp only [Act.put, List.setIfInBounds_toArray, List.set_cons_zero, List.set_cons_succ]
        refine wp_region_later W5.heap.size W5 (by kernel_rfl) (by kernel_rfl) (Below.refl _ _) ?_
        repeat (go_big_quiet_step (first | (go_at_call 8; refine Calls.later0 (nM _)) | (go_at_call 15; refine Calls.later0 (nU _)) | (go_at_call 16; refine Calls.later0 (nD _))))
        refine wpQuiet_nil ?_
        intro _ hlat
        obtain ⟨z, rfl⟩ := hlat
        go_wp2_with fail
        exact ⟨⟨j + 1, m, ka, kc, sa, sl, sc, fz, flz, fcz, LZ, KS, s, rs, dk, ey, ck, fy, FZ, by omega, by simp, HND.out, HLZ.out, HSZ.out, (z.below.block gt gtl).trans pt, (z.below.block gd gdl).trans pd, Mt.mono z.below, hL2.mono z.below, Dy.mono z.below, Da.size z.below.size, below_then bt z.below⟩, by simp [intOf]; omega⟩
    · have a1 : v3.cell? ⟨ga, 1, none⟩ = some (.slice xa xl xc) := cell_of_row _ _ 1 _ _ _ pa
      have a2 : v3.cell? ⟨ga, 2, none⟩ = some (.int .i64 xf) := cell_of_row _ _ 2 _ _ _ pa
      obtain ⟨V, E, hg1, hg2⟩ := getF_both KS m hKq hm20 HND.out L FL HSB.out xk xf
      have HG1 := Lib.hid hg1
      have HG2 := Lib.hid hg2
      clear hg1 hg2
      go_wp2_with (first | (refine wpList_load_row rfl 31 _ rfl gt rfl 31 _ _ _ pt Try.underlying31 rfl (by kernel_rfl) ?_) | fail)
      refine (HG1.out _ (N : Nat) ka kc sa sl sc fa fl fc hL s rs Mt.rd xa xl xc hkx).mono ?_
      rintro e w3 ⟨rfl, b3⟩
      clear a1 a2
      replace Da := Da.size b3.size
      replace pt := (b3.block gt (Array.getElem?_eq_some_iff.1 pt).1).trans pt
      replace pd := (b3.block gd (Array.getElem?_eq_some_iff.1 pd).1).trans pd
      replace pa := (b3.block ga (Array.getElem?_eq_some_iff.1 pa).1).trans pa
      replace Mt := Mt.mono b3
      replace hL := hL.mono b3
      replace Dp := Dp.mono b3
      replace hkx := hkx.mono b3
      replace bt := below_then bt b3
      clear b3
      have a1 : w3.cell? ⟨ga, 1, none⟩ = some (.slice xa xl xc) := cell_of_row _ _ 1 _ _ _ pa
      have a2 : w3.cell? ⟨ga, 2, none⟩ = some (.int .i64 xf) := cell_of_row _ _ 2 _ _ _ pa
      go_wp2_with (first | (refine wpList_load_row rfl 37 _ rfl gd rfl 37 _ _ _ pd Try.underlying37 rfl (by kernel_rfl) ?_) | fail)
      refine (HG2.out _ (N : Nat) dk df ck cf Dp xa xl xc hkx).mono ?_
      rintro e w4 ⟨rfl, b4⟩
      clear a1 a2
      replace Da := Da.size b4.size
      replace pt := (b4.block gt (Array.getElem?_eq_some_iff.1 pt).1).trans pt
      replace pd := (b4.block gd (Array.getElem?_eq_some_iff.1 pd).1).trans pd
      replace pa := (b4.block ga (Array.getElem?_eq_some_iff.1 pa).1).trans pa
      replace Mt := Mt.mono b4
      replace hL := hL.mono b4
      replace Dp := Dp.mono b4
      replace hkx := hkx.mono b4
      replace bt := below_then bt b4
      clear b4
      clear HG1 HG2
      go_upto_region 34 with fail
      obtain ⟨V, hV⟩ : ∃ V, decide (xk ∈ KS) = V := ⟨_, rfl⟩
      obtain ⟨W5, hW5⟩ : ∃ v, w4 = v := ⟨_, rfl⟩
      rw [hW5] at pt pd pa Mt hL Dp Da hkx bt ⊢
      clear hW5
      have hmz := Mt.rd.small
      have gtl := (Array.getElem?_eq_some_iff.1 pt).1
      have gdl := (Array.getElem?_eq_some_iff.1 pd).1
      have gal := (Array.getElem?_eq_some_iff.1 pa).1
      have q0 : ∀ z : Later W5.heap.size W5, z.w.cell? ⟨gt, 0, none⟩ = some (.int .i64 (N : Nat)) := fun z => cell_of_row _ _ 0 _ _ _ ((z.below.block gt gtl).trans pt)
      have q1 : ∀ z : Later W5.heap.size W5, z.w.cell? ⟨gt, 1, none⟩ = some (.slice ka m kc) := fun z => cell_of_row _ _ 1 _ _ _ ((z.below.block gt gtl).trans pt)
      have q2 : ∀ z : Later W5.heap.size W5, z.w.cell? ⟨gt, 2, none⟩ = some (.slice sa sl sc) := fun z => cell_of_row _ _ 2 _ _ _ ((z.below.block gt gtl).trans pt)
      have q3 : ∀ z : Later W5.heap.size W5, z.w.cell? ⟨gt, 3, none⟩ = some (.slice fa fl fc) := fun z => cell_of_row _ _ 3 _ _ _ ((z.below.block gt gtl).trans pt)
      have r0 : ∀ z : Later W5.heap.size W5, z.w.cell? ⟨gd, 0, none⟩ = some (.int .i64 (N : Nat)) := fun z => cell_of_row _ _ 0 _ _ _ ((z.below.block gd gdl).trans pd)
      have r1 : ∀ z : Later W5.heap.size W5, z.w.cell? ⟨gd, 1, none⟩ = some (.slice dk m ck) := fun z => cell_of_row _ _ 1 _ _ _ ((z.below.block gd gdl).trans pd)
      have r2 : ∀ z : Later W5.heap.size W5, z.w.cell? ⟨gd, 2, none⟩ = some (.slice df m cf) := fun z => cell_of_row _ _ 2 _ _ _ ((z.below.block gd gdl).trans pd)
      have a1 : ∀ z : Later W5.heap.size W5, z.w.cell? ⟨ga, 1, none⟩ = some (.slice xa xl xc) := fun z => cell_of_row _ _ 1 _ _ _ ((z.below.block ga gal).trans pa)
      have nM := fun z : Later W5.heap.size W5 => manyF_any z.w (N : Nat) ka m kc sa sl sc (.slice fa fl fc) hmz
      have nU := fun z : Later W5.heap.size W5 => memberF_any z.w (N : Nat) ka m kc sa sl sc (.slice fa fl fc) KS s rs (Mt.mono z.below).rd xa xl xc xk (hkx.mono z.below)
      have nD := fun z : Later W5.heap.size W5 => refmemberF_any z.w (N : Nat) dk m ck df m cf KS (Dp.mono z.below).keys xa xl xc xk (hkx.mono z.below)
      rw [hV] at nU nD
      clear hV
      cases V
      all_goals
        go_upto_region 34 with fail
        try simp only [Act.put, List.setIfInBounds_toArray, List.set_cons_zero, List.set_cons_succ]
        refine wp_region_later W5.heap.size W5 (by kernel_rfl) (by kernel_rfl) (Below.refl _ _) ?_
        repeat (go_big_quiet_step (first | (go_at_call 8; refine Calls.later0 (nM _)) | (go_at_call 15; refine Calls.later0 (nU _)) | (go_at_call 16; refine Calls.later0 (nD _))))
        refine wpQuiet_nil ?_
        intro _ hlat
        obtain ⟨z, rfl⟩ := hlat
        go_wp2_with fail
        exact ⟨⟨j + 1, m, ka, kc, sa, sl, sc, fa, fl, fc, L, KS, s, rs, dk, df, ck, cf, FL, by omega, by simp, HND.out, HLK.out, HSB.out, (z.below.block gt gtl).trans pt, (z.below.block gd gdl).trans pd, Mt.mono z.below, hL.mono z.below, Dp.mono z.below, Da.size z.below.size, below_then bt z.below⟩, by simp [intOf]; omega⟩
end Go.Proofs.Ytbbdeefnooaacaa
