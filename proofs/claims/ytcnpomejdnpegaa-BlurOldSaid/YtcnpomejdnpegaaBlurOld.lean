/- BlurOld returns true (by gen10o.py). -/
import Derived.Test.YtcnpomejdnpegaaBlurB
namespace Go.Proofs.Ytcnpomejdnpegaa
open Go.RowKit
set_option linter.unusedVariables false

set_option maxRecDepth 100000 in
set_option maxHeartbeats 2000000 in
theorem blurold_big (w : World) (m k seed : Nat) (aa ab ac : Option Addr) (la ca lb cb lc cc : Nat) (A B C : List Nat) (hm : m < 65536) (hk : k < 256) (sd : seed < 18446744073709551616) (h : 100 < la ∨ 100 < lb ∨ 100 < lc) :
    Calls Try.prog 5 #[.agg #[.int .u16 (m : Nat), .int .u8 (k : Nat), .int .u64 (seed : Nat), .slice aa la ca, .slice ab lb cb, .slice ac lc cc]] w fun e w' => e = .returned (.bool true) ∧ Below w.heap.size w w' := by
  have bA : ∀ o : Obj, Below w.heap.size w (w.alloc o) := fun o => (Below.refl _ _).alloc (Nat.le_refl _) _
  by_cases h1 : 100 < la
  · have d1 : decide ((100 : Int) < (la : Int)) = true := by simp; omega
    go_enter Try.func5, Try.ntmps5
    go_wp2_with fail
    refine (shown_any _).mono ?_
    rintro e w1 ⟨rfl, b1⟩
    go_wp2_with fail
    go_ret
    exact ⟨rfl, below_then (bA _) b1⟩
  have d1 : decide ((100 : Int) < (la : Int)) = false := by simp; omega
  by_cases h2 : 100 < lb
  · have d2 : decide ((100 : Int) < (lb : Int)) = true := by simp; omega
    go_enter Try.func5, Try.ntmps5
    go_wp2_with fail
    refine (shown_any _).mono ?_
    rintro e w1 ⟨rfl, b1⟩
    go_wp2_with fail
    go_ret
    exact ⟨rfl, below_then (bA _) b1⟩
  have d2 : decide ((100 : Int) < (lb : Int)) = false := by simp; omega
  have d3 : decide ((100 : Int) < (lc : Int)) = true := by simp; omega
  go_enter Try.func5, Try.ntmps5
  go_wp2_with fail
  refine (shown_any _).mono ?_
  rintro e w1 ⟨rfl, b1⟩
  go_wp2_with fail
  go_ret
  exact ⟨rfl, below_then (bA _) b1⟩
set_option maxRecDepth 100000 in
set_option maxHeartbeats 8000000 in
theorem blurold_small (w : World) (m k seed : Nat) (aa ab ac : Option Addr) (la ca lb cb lc cc : Nat) (A B C : List Nat) (hm : m < 65536) (hk : k < 256) (sd : seed < 18446744073709551616) (h1 : la ≤ 100) (h2 : lb ≤ 100) (h3 : lc ≤ 100) (hA : BytesAt w aa la ca A) (hB : BytesAt w ab lb cb B) (hC : BytesAt w ac lc cc C) :
    Calls Try.prog 5 #[.agg #[.int .u16 (m : Nat), .int .u8 (k : Nat), .int .u64 (seed : Nat), .slice aa la ca, .slice ab lb cb, .slice ac lc cc]] w fun e w' => e = .returned (.bool true) ∧ Below w.heap.size w w' := by
  have bA : ∀ o : Obj, Below w.heap.size w (w.alloc o) := fun o => (Below.refl _ _).alloc (Nat.le_refl _) _
  have d1 : decide ((100 : Int) < (la : Int)) = false := by simp; omega
  have d2 : decide ((100 : Int) < (lb : Int)) = false := by simp; omega
  have d3 : decide ((100 : Int) < (lc : Int)) = false := by simp; omega
  obtain ⟨M, hM⟩ : ∃ M : Nat, 1 + (m : Int) % 2000 = (M : Int) := ⟨1 + m % 2000, by omega⟩
  obtain ⟨K, hK⟩ : ∃ K : Nat, 1 + (k : Int) % 16 = (K : Int) := ⟨1 + k % 16, by omega⟩
  have m1 : 1 ≤ M := by omega
  have m2 : M ≤ 4194304 := by omega
  have k1 : 1 ≤ K := by omega
  have k2 : K ≤ 16 := by omega
  obtain ⟨L, hL⟩ : ∃ L, (M + 7) / 8 = L := ⟨_, rfl⟩
  have hpa := placesN_lt A seed M K m1
  have hpb := placesN_lt B seed M K m1
  have hla := placesN_length A seed M K
  obtain ⟨PA, hPA⟩ : ∃ PA, placesN A seed M K = PA := ⟨_, rfl⟩
  obtain ⟨PB, hPB⟩ : ∃ PB, placesN B seed M K = PB := ⟨_, rfl⟩
  obtain ⟨PC, hPC⟩ : ∃ PC, placesN C seed M K = PC := ⟨_, rfl⟩
  rw [hPA] at hpa hla
  rw [hPB] at hpb
  obtain ⟨o1, o2, o3, o4, o5, o6⟩ := old_facts L PA PB PC K (fun p hp => by have := hpa p hp; omega) (fun p hp => by have := hpb p hp; omega) hla k1
  obtain ⟨Z, hZ⟩ : ∃ Z, List.replicate L 0 = Z := ⟨_, rfl⟩
  rw [hZ] at o1 o2 o3 o4 o5 o6
  obtain ⟨X, hX⟩ : ∃ X, insV Z PA = X := ⟨_, rfl⟩
  obtain ⟨P, hP⟩ : ∃ P, insV Z PB = P := ⟨_, rfl⟩
  rw [hX, hP] at o3 o4
  rw [hX] at o5 o6
  obtain ⟨Y, hY⟩ : ∃ Y, insV X PB = Y := ⟨_, rfl⟩
  obtain ⟨Q, hQ⟩ : ∃ Q, insV P PA = Q := ⟨_, rfl⟩
  rw [hY, hQ] at o3 o4
  rw [hY] at o5
  clear hpa hpb hla
  have HL := Lib.hid hL
  clear hL
  go_enter Try.func5, Try.ntmps5
  go_wp2_with fail
  refine (shown_any _).mono ?_
  rintro e w0 ⟨rfl, b0⟩
  have bt := below_then (bA _) b0
  replace hA := hA.mono bt
  replace hB := hB.mono bt
  replace hC := hC.mono bt
  go_wp2_with (first | fail)
  refine (new_at _ (M : Nat) (K : Nat) (seed : Nat) M K seed L rfl rfl rfl HL.out m1 m2 k1 k2 sd).mono ?_
  rintro e w1 ⟨as_0, as_1, as_2, cs_0, cs_1, cs_2, rfl, Hs, b1⟩
  replace hA := hA.mono b1
  replace hB := hB.mono b1
  replace hC := hC.mono b1
  replace bt := below_then bt b1
  rw [hZ] at Hs
  have A1s := (Below.refl w1.heap.size w1).alloc (Nat.le_refl _) (.cells #[.int .i64 (M : Nat), .int .i64 (K : Nat), .int .u64 (seed : Nat), .slice as_0 L cs_0, .slice as_1 L cs_1, .slice as_2 L cs_2] 31)
  replace hA := hA.mono A1s
  replace hB := hB.mono A1s
  replace hC := hC.mono A1s
  replace bt := below_then bt A1s
  have ps : (w1.alloc (.cells #[.int .i64 (M : Nat), .int .i64 (K : Nat), .int .u64 (seed : Nat), .slice as_0 L cs_0, .slice as_1 L cs_1, .slice as_2 L cs_2] 31)).heap[w1.heap.size]? = some (.cells #[.int .i64 (M : Nat), .int .i64 (K : Nat), .int .u64 (seed : Nat), .slice as_0 L cs_0, .slice as_1 L cs_1, .slice as_2 L cs_2] 31 (0, 0)) := heap_alloc_new _ _
  have zs : w1.heap.size < (w1.alloc (.cells #[.int .i64 (M : Nat), .int .i64 (K : Nat), .int .u64 (seed : Nat), .slice as_0 L cs_0, .slice as_1 L cs_1, .slice as_2 L cs_2] 31)).heap.size := by simp
  have hs := Hs.mono A1s
  go_wp2_with (first | (refine wpList_load_row rfl 31 _ rfl (w1.heap.size) rfl 31 #[.int .i64 (M : Nat), .int .i64 (K : Nat), .int .u64 (seed : Nat), .slice as_0 L cs_0, .slice as_1 L cs_1, .slice as_2 L cs_2] (0, 0) _ ps Try.underlying31 rfl (by kernel_rfl) ?_) | fail)
  refine (insert_at _ (M : Nat) (K : Nat) (seed : Nat) M K seed L rfl rfl rfl HL.out _ Z Z Z aa la ca A hs hA).mono ?_
  rintro e w2 ⟨ax_0, ax_1, ax_2, cx_0, cx_1, cx_2, rfl, Hx, b2⟩
  replace hA := hA.mono b2
  replace hB := hB.mono b2
  replace hC := hC.mono b2
  replace hs := hs.mono b2
  replace ps := (b2.block _ zs).trans ps
  replace zs := Nat.lt_of_lt_of_le zs b2.size
  replace bt := below_then bt b2
  rw [hPA] at Hx
  have Hx : BlurAt w2 M K seed (.agg #[.int .i64 (M : Nat), .int .i64 (K : Nat), .int .u64 (seed : Nat), .slice ax_0 L cx_0, .slice ax_1 L cx_1, .slice ax_2 L cx_2]) (insV Z PA) Z Z := Hx
  rw [hX] at Hx
  have A2x := (Below.refl w2.heap.size w2).alloc (Nat.le_refl _) (.cells #[.int .i64 (M : Nat), .int .i64 (K : Nat), .int .u64 (seed : Nat), .slice ax_0 L cx_0, .slice ax_1 L cx_1, .slice ax_2 L cx_2] 31)
  replace hA := hA.mono A2x
  replace hB := hB.mono A2x
  replace hC := hC.mono A2x
  replace hs := hs.mono A2x
  replace ps := (A2x.block _ zs).trans ps
  replace zs := Nat.lt_of_lt_of_le zs A2x.size
  replace bt := below_then bt A2x
  have px : (w2.alloc (.cells #[.int .i64 (M : Nat), .int .i64 (K : Nat), .int .u64 (seed : Nat), .slice ax_0 L cx_0, .slice ax_1 L cx_1, .slice ax_2 L cx_2] 31)).heap[w2.heap.size]? = some (.cells #[.int .i64 (M : Nat), .int .i64 (K : Nat), .int .u64 (seed : Nat), .slice ax_0 L cx_0, .slice ax_1 L cx_1, .slice ax_2 L cx_2] 31 (0, 0)) := heap_alloc_new _ _
  have zx : w2.heap.size < (w2.alloc (.cells #[.int .i64 (M : Nat), .int .i64 (K : Nat), .int .u64 (seed : Nat), .slice ax_0 L cx_0, .slice ax_1 L cx_1, .slice ax_2 L cx_2] 31)).heap.size := by simp
  have hx := Hx.mono A2x
  go_wp2_with (first | (refine wpList_load_row rfl 31 _ rfl (w1.heap.size) rfl 31 #[.int .i64 (M : Nat), .int .i64 (K : Nat), .int .u64 (seed : Nat), .slice as_0 L cs_0, .slice as_1 L cs_1, .slice as_2 L cs_2] (0, 0) _ ps Try.underlying31 rfl (by kernel_rfl) ?_) | (refine wpList_load_row rfl 31 _ rfl (w2.heap.size) rfl 31 #[.int .i64 (M : Nat), .int .i64 (K : Nat), .int .u64 (seed : Nat), .slice ax_0 L cx_0, .slice ax_1 L cx_1, .slice ax_2 L cx_2] (0, 0) _ px Try.underlying31 rfl (by kernel_rfl) ?_) | fail)
  refine (insert_at _ (M : Nat) (K : Nat) (seed : Nat) M K seed L rfl rfl rfl HL.out _ X Z Z ab lb cb B hx hB).mono ?_
  rintro e w3 ⟨ay_0, ay_1, ay_2, cy_0, cy_1, cy_2, rfl, Hy, b3⟩
  replace hA := hA.mono b3
  replace hB := hB.mono b3
  replace hC := hC.mono b3
  replace hs := hs.mono b3
  replace ps := (b3.block _ zs).trans ps
  replace zs := Nat.lt_of_lt_of_le zs b3.size
  replace hx := hx.mono b3
  replace px := (b3.block _ zx).trans px
  replace zx := Nat.lt_of_lt_of_le zx b3.size
  replace bt := below_then bt b3
  rw [hPB] at Hy
  have Hy : BlurAt w3 M K seed (.agg #[.int .i64 (M : Nat), .int .i64 (K : Nat), .int .u64 (seed : Nat), .slice ay_0 L cy_0, .slice ay_1 L cy_1, .slice ay_2 L cy_2]) (insV X PB) Z Z := Hy
  rw [hY] at Hy
  have A3y := (Below.refl w3.heap.size w3).alloc (Nat.le_refl _) (.cells #[.int .i64 (M : Nat), .int .i64 (K : Nat), .int .u64 (seed : Nat), .slice ay_0 L cy_0, .slice ay_1 L cy_1, .slice ay_2 L cy_2] 31)
  replace hA := hA.mono A3y
  replace hB := hB.mono A3y
  replace hC := hC.mono A3y
  replace hs := hs.mono A3y
  replace ps := (A3y.block _ zs).trans ps
  replace zs := Nat.lt_of_lt_of_le zs A3y.size
  replace hx := hx.mono A3y
  replace px := (A3y.block _ zx).trans px
  replace zx := Nat.lt_of_lt_of_le zx A3y.size
  replace bt := below_then bt A3y
  have py : (w3.alloc (.cells #[.int .i64 (M : Nat), .int .i64 (K : Nat), .int .u64 (seed : Nat), .slice ay_0 L cy_0, .slice ay_1 L cy_1, .slice ay_2 L cy_2] 31)).heap[w3.heap.size]? = some (.cells #[.int .i64 (M : Nat), .int .i64 (K : Nat), .int .u64 (seed : Nat), .slice ay_0 L cy_0, .slice ay_1 L cy_1, .slice ay_2 L cy_2] 31 (0, 0)) := heap_alloc_new _ _
  have zy : w3.heap.size < (w3.alloc (.cells #[.int .i64 (M : Nat), .int .i64 (K : Nat), .int .u64 (seed : Nat), .slice ay_0 L cy_0, .slice ay_1 L cy_1, .slice ay_2 L cy_2] 31)).heap.size := by simp
  have hy := Hy.mono A3y
  go_wp2_with (first | (refine wpList_load_row rfl 31 _ rfl (w1.heap.size) rfl 31 #[.int .i64 (M : Nat), .int .i64 (K : Nat), .int .u64 (seed : Nat), .slice as_0 L cs_0, .slice as_1 L cs_1, .slice as_2 L cs_2] (0, 0) _ ps Try.underlying31 rfl (by kernel_rfl) ?_) | (refine wpList_load_row rfl 31 _ rfl (w2.heap.size) rfl 31 #[.int .i64 (M : Nat), .int .i64 (K : Nat), .int .u64 (seed : Nat), .slice ax_0 L cx_0, .slice ax_1 L cx_1, .slice ax_2 L cx_2] (0, 0) _ px Try.underlying31 rfl (by kernel_rfl) ?_) | (refine wpList_load_row rfl 31 _ rfl (w3.heap.size) rfl 31 #[.int .i64 (M : Nat), .int .i64 (K : Nat), .int .u64 (seed : Nat), .slice ay_0 L cy_0, .slice ay_1 L cy_1, .slice ay_2 L cy_2] (0, 0) _ py Try.underlying31 rfl (by kernel_rfl) ?_) | fail)
  refine (insert_at _ (M : Nat) (K : Nat) (seed : Nat) M K seed L rfl rfl rfl HL.out _ Z Z Z ab lb cb B hs hB).mono ?_
  rintro e w4 ⟨ap_0, ap_1, ap_2, cp_0, cp_1, cp_2, rfl, Hp, b4⟩
  replace hA := hA.mono b4
  replace hB := hB.mono b4
  replace hC := hC.mono b4
  replace hs := hs.mono b4
  replace ps := (b4.block _ zs).trans ps
  replace zs := Nat.lt_of_lt_of_le zs b4.size
  replace hx := hx.mono b4
  replace px := (b4.block _ zx).trans px
  replace zx := Nat.lt_of_lt_of_le zx b4.size
  replace hy := hy.mono b4
  replace py := (b4.block _ zy).trans py
  replace zy := Nat.lt_of_lt_of_le zy b4.size
  replace bt := below_then bt b4
  rw [hPB] at Hp
  have Hp : BlurAt w4 M K seed (.agg #[.int .i64 (M : Nat), .int .i64 (K : Nat), .int .u64 (seed : Nat), .slice ap_0 L cp_0, .slice ap_1 L cp_1, .slice ap_2 L cp_2]) (insV Z PB) Z Z := Hp
  rw [hP] at Hp
  have A4p := (Below.refl w4.heap.size w4).alloc (Nat.le_refl _) (.cells #[.int .i64 (M : Nat), .int .i64 (K : Nat), .int .u64 (seed : Nat), .slice ap_0 L cp_0, .slice ap_1 L cp_1, .slice ap_2 L cp_2] 31)
  replace hA := hA.mono A4p
  replace hB := hB.mono A4p
  replace hC := hC.mono A4p
  replace hs := hs.mono A4p
  replace ps := (A4p.block _ zs).trans ps
  replace zs := Nat.lt_of_lt_of_le zs A4p.size
  replace hx := hx.mono A4p
  replace px := (A4p.block _ zx).trans px
  replace zx := Nat.lt_of_lt_of_le zx A4p.size
  replace hy := hy.mono A4p
  replace py := (A4p.block _ zy).trans py
  replace zy := Nat.lt_of_lt_of_le zy A4p.size
  replace bt := below_then bt A4p
  have pp : (w4.alloc (.cells #[.int .i64 (M : Nat), .int .i64 (K : Nat), .int .u64 (seed : Nat), .slice ap_0 L cp_0, .slice ap_1 L cp_1, .slice ap_2 L cp_2] 31)).heap[w4.heap.size]? = some (.cells #[.int .i64 (M : Nat), .int .i64 (K : Nat), .int .u64 (seed : Nat), .slice ap_0 L cp_0, .slice ap_1 L cp_1, .slice ap_2 L cp_2] 31 (0, 0)) := heap_alloc_new _ _
  have zp : w4.heap.size < (w4.alloc (.cells #[.int .i64 (M : Nat), .int .i64 (K : Nat), .int .u64 (seed : Nat), .slice ap_0 L cp_0, .slice ap_1 L cp_1, .slice ap_2 L cp_2] 31)).heap.size := by simp
  have hp := Hp.mono A4p
  go_wp2_with (first | (refine wpList_load_row rfl 31 _ rfl (w1.heap.size) rfl 31 #[.int .i64 (M : Nat), .int .i64 (K : Nat), .int .u64 (seed : Nat), .slice as_0 L cs_0, .slice as_1 L cs_1, .slice as_2 L cs_2] (0, 0) _ ps Try.underlying31 rfl (by kernel_rfl) ?_) | (refine wpList_load_row rfl 31 _ rfl (w2.heap.size) rfl 31 #[.int .i64 (M : Nat), .int .i64 (K : Nat), .int .u64 (seed : Nat), .slice ax_0 L cx_0, .slice ax_1 L cx_1, .slice ax_2 L cx_2] (0, 0) _ px Try.underlying31 rfl (by kernel_rfl) ?_) | (refine wpList_load_row rfl 31 _ rfl (w3.heap.size) rfl 31 #[.int .i64 (M : Nat), .int .i64 (K : Nat), .int .u64 (seed : Nat), .slice ay_0 L cy_0, .slice ay_1 L cy_1, .slice ay_2 L cy_2] (0, 0) _ py Try.underlying31 rfl (by kernel_rfl) ?_) | (refine wpList_load_row rfl 31 _ rfl (w4.heap.size) rfl 31 #[.int .i64 (M : Nat), .int .i64 (K : Nat), .int .u64 (seed : Nat), .slice ap_0 L cp_0, .slice ap_1 L cp_1, .slice ap_2 L cp_2] (0, 0) _ pp Try.underlying31 rfl (by kernel_rfl) ?_) | fail)
  refine (insert_at _ (M : Nat) (K : Nat) (seed : Nat) M K seed L rfl rfl rfl HL.out _ P Z Z aa la ca A hp hA).mono ?_
  rintro e w5 ⟨aq_0, aq_1, aq_2, cq_0, cq_1, cq_2, rfl, Hq, b5⟩
  replace hA := hA.mono b5
  replace hB := hB.mono b5
  replace hC := hC.mono b5
  replace hs := hs.mono b5
  replace ps := (b5.block _ zs).trans ps
  replace zs := Nat.lt_of_lt_of_le zs b5.size
  replace hx := hx.mono b5
  replace px := (b5.block _ zx).trans px
  replace zx := Nat.lt_of_lt_of_le zx b5.size
  replace hy := hy.mono b5
  replace py := (b5.block _ zy).trans py
  replace zy := Nat.lt_of_lt_of_le zy b5.size
  replace hp := hp.mono b5
  replace pp := (b5.block _ zp).trans pp
  replace zp := Nat.lt_of_lt_of_le zp b5.size
  replace bt := below_then bt b5
  rw [hPA] at Hq
  have Hq : BlurAt w5 M K seed (.agg #[.int .i64 (M : Nat), .int .i64 (K : Nat), .int .u64 (seed : Nat), .slice aq_0 L cq_0, .slice aq_1 L cq_1, .slice aq_2 L cq_2]) (insV P PA) Z Z := Hq
  rw [hQ] at Hq
  have A5q := (Below.refl w5.heap.size w5).alloc (Nat.le_refl _) (.cells #[.int .i64 (M : Nat), .int .i64 (K : Nat), .int .u64 (seed : Nat), .slice aq_0 L cq_0, .slice aq_1 L cq_1, .slice aq_2 L cq_2] 31)
  replace hA := hA.mono A5q
  replace hB := hB.mono A5q
  replace hC := hC.mono A5q
  replace hs := hs.mono A5q
  replace ps := (A5q.block _ zs).trans ps
  replace zs := Nat.lt_of_lt_of_le zs A5q.size
  replace hx := hx.mono A5q
  replace px := (A5q.block _ zx).trans px
  replace zx := Nat.lt_of_lt_of_le zx A5q.size
  replace hy := hy.mono A5q
  replace py := (A5q.block _ zy).trans py
  replace zy := Nat.lt_of_lt_of_le zy A5q.size
  replace hp := hp.mono A5q
  replace pp := (A5q.block _ zp).trans pp
  replace zp := Nat.lt_of_lt_of_le zp A5q.size
  replace bt := below_then bt A5q
  have pq : (w5.alloc (.cells #[.int .i64 (M : Nat), .int .i64 (K : Nat), .int .u64 (seed : Nat), .slice aq_0 L cq_0, .slice aq_1 L cq_1, .slice aq_2 L cq_2] 31)).heap[w5.heap.size]? = some (.cells #[.int .i64 (M : Nat), .int .i64 (K : Nat), .int .u64 (seed : Nat), .slice aq_0 L cq_0, .slice aq_1 L cq_1, .slice aq_2 L cq_2] 31 (0, 0)) := heap_alloc_new _ _
  have zq : w5.heap.size < (w5.alloc (.cells #[.int .i64 (M : Nat), .int .i64 (K : Nat), .int .u64 (seed : Nat), .slice aq_0 L cq_0, .slice aq_1 L cq_1, .slice aq_2 L cq_2] 31)).heap.size := by simp
  have hq := Hq.mono A5q
  obtain ⟨N, hN⟩ : ∃ N, onesV Q = N := ⟨_, rfl⟩
  obtain ⟨T, hT⟩ : ∃ T, allV Q PC = T := ⟨_, rfl⟩
  obtain ⟨R, hR⟩ : ∃ R, allV X PC = R := ⟨_, rfl⟩
  obtain ⟨NX, hNX⟩ : ∃ NX, onesV X = NX := ⟨_, rfl⟩
  rw [hN] at o3
  rw [hT] at o4
  rw [hR, o4] at o5
  rw [hNX] at o6
  obtain ⟨w9, hw9⟩ : ∃ w9, (w5.alloc (.cells #[.int .i64 (M : Nat), .int .i64 (K : Nat), .int .u64 (seed : Nat), .slice aq_0 L cq_0, .slice aq_1 L cq_1, .slice aq_2 L cq_2] 31)) = w9 := ⟨_, rfl⟩
  rw [hw9] at bt hA hB hC hs ps zs hx px zx hy py zy hp pp zp hq pq zq
  have n1 : ∀ x : Later w9.heap.size w9, Calls Try.prog 19 #[.agg #[.int .i64 (M : Nat), .int .i64 (K : Nat), .int .u64 (seed : Nat), .slice as_0 L cs_0, .slice as_1 L cs_1, .slice as_2 L cs_2]] x.w fun e w' => e = .returned (.int .i64 0) ∧ Below x.w.heap.size x.w w' := fun x => by
    have := ones_any x.w M K seed _ Z Z Z (hs.mono x.below)
    rwa [o1] at this
  have n2 : ∀ x : Later w9.heap.size w9, Calls Try.prog 17 #[.agg #[.int .i64 (M : Nat), .int .i64 (K : Nat), .int .u64 (seed : Nat), .slice as_0 L cs_0, .slice as_1 L cs_1, .slice as_2 L cs_2], .slice aa la ca] x.w fun e w' => e = .returned (.bool false) ∧ Below x.w.heap.size x.w w' := fun x => by
    have := member_any x.w M K seed _ Z Z Z aa la ca A (hs.mono x.below) (hA.mono x.below)
    rwa [hPA, o2] at this
  have n3 : ∀ x : Later w9.heap.size w9, Calls Try.prog 19 #[.agg #[.int .i64 (M : Nat), .int .i64 (K : Nat), .int .u64 (seed : Nat), .slice ay_0 L cy_0, .slice ay_1 L cy_1, .slice ay_2 L cy_2]] x.w fun e w' => e = .returned (.int .i64 (N : Nat)) ∧ Below x.w.heap.size x.w w' := fun x => by
    have := ones_any x.w M K seed _ Y Z Z (hy.mono x.below)
    rwa [o3] at this
  have n4 : ∀ x : Later w9.heap.size w9, Calls Try.prog 19 #[.agg #[.int .i64 (M : Nat), .int .i64 (K : Nat), .int .u64 (seed : Nat), .slice aq_0 L cq_0, .slice aq_1 L cq_1, .slice aq_2 L cq_2]] x.w fun e w' => e = .returned (.int .i64 (N : Nat)) ∧ Below x.w.heap.size x.w w' := fun x => by
    have := ones_any x.w M K seed _ Q Z Z (hq.mono x.below)
    rwa [hN] at this
  have n5 : ∀ x : Later w9.heap.size w9, Calls Try.prog 17 #[.agg #[.int .i64 (M : Nat), .int .i64 (K : Nat), .int .u64 (seed : Nat), .slice ay_0 L cy_0, .slice ay_1 L cy_1, .slice ay_2 L cy_2], .slice ac lc cc] x.w fun e w' => e = .returned (.bool T) ∧ Below x.w.heap.size x.w w' := fun x => by
    have := member_any x.w M K seed _ Y Z Z ac lc cc C (hy.mono x.below) (hC.mono x.below)
    rwa [hPC, o4] at this
  have n6 : ∀ x : Later w9.heap.size w9, Calls Try.prog 17 #[.agg #[.int .i64 (M : Nat), .int .i64 (K : Nat), .int .u64 (seed : Nat), .slice aq_0 L cq_0, .slice aq_1 L cq_1, .slice aq_2 L cq_2], .slice ac lc cc] x.w fun e w' => e = .returned (.bool T) ∧ Below x.w.heap.size x.w w' := fun x => by
    have := member_any x.w M K seed _ Q Z Z ac lc cc C (hq.mono x.below) (hC.mono x.below)
    rwa [hPC, hT] at this
  have n7 : ∀ x : Later w9.heap.size w9, Calls Try.prog 17 #[.agg #[.int .i64 (M : Nat), .int .i64 (K : Nat), .int .u64 (seed : Nat), .slice ax_0 L cx_0, .slice ax_1 L cx_1, .slice ax_2 L cx_2], .slice ac lc cc] x.w fun e w' => e = .returned (.bool R) ∧ Below x.w.heap.size x.w w' := fun x => by
    have := member_any x.w M K seed _ X Z Z ac lc cc C (hx.mono x.below) (hC.mono x.below)
    rwa [hPC, hR] at this
  have n8 : ∀ x : Later w9.heap.size w9, Calls Try.prog 19 #[.agg #[.int .i64 (M : Nat), .int .i64 (K : Nat), .int .u64 (seed : Nat), .slice ax_0 L cx_0, .slice ax_1 L cx_1, .slice ax_2 L cx_2]] x.w fun e w' => e = .returned (.int .i64 (NX : Nat)) ∧ Below x.w.heap.size x.w w' := fun x => by
    have := ones_any x.w M K seed _ X Z Z (hx.mono x.below)
    rwa [hNX] at this
  have qs0 : ∀ x : Later w9.heap.size w9, x.w.cell? ⟨w1.heap.size, 0, none⟩ = some (.int .i64 (M : Nat)) := fun x => (x.cell _ _ zs).trans (cell_of_row _ _ 0 _ _ _ ps)
  have qs1 : ∀ x : Later w9.heap.size w9, x.w.cell? ⟨w1.heap.size, 1, none⟩ = some (.int .i64 (K : Nat)) := fun x => (x.cell _ _ zs).trans (cell_of_row _ _ 1 _ _ _ ps)
  have qs2 : ∀ x : Later w9.heap.size w9, x.w.cell? ⟨w1.heap.size, 2, none⟩ = some (.int .u64 (seed : Nat)) := fun x => (x.cell _ _ zs).trans (cell_of_row _ _ 2 _ _ _ ps)
  have qs3 : ∀ x : Later w9.heap.size w9, x.w.cell? ⟨w1.heap.size, 3, none⟩ = some (.slice as_0 L cs_0) := fun x => (x.cell _ _ zs).trans (cell_of_row _ _ 3 _ _ _ ps)
  have qs4 : ∀ x : Later w9.heap.size w9, x.w.cell? ⟨w1.heap.size, 4, none⟩ = some (.slice as_1 L cs_1) := fun x => (x.cell _ _ zs).trans (cell_of_row _ _ 4 _ _ _ ps)
  have qs5 : ∀ x : Later w9.heap.size w9, x.w.cell? ⟨w1.heap.size, 5, none⟩ = some (.slice as_2 L cs_2) := fun x => (x.cell _ _ zs).trans (cell_of_row _ _ 5 _ _ _ ps)
  have qy0 : ∀ x : Later w9.heap.size w9, x.w.cell? ⟨w3.heap.size, 0, none⟩ = some (.int .i64 (M : Nat)) := fun x => (x.cell _ _ zy).trans (cell_of_row _ _ 0 _ _ _ py)
  have qy1 : ∀ x : Later w9.heap.size w9, x.w.cell? ⟨w3.heap.size, 1, none⟩ = some (.int .i64 (K : Nat)) := fun x => (x.cell _ _ zy).trans (cell_of_row _ _ 1 _ _ _ py)
  have qy2 : ∀ x : Later w9.heap.size w9, x.w.cell? ⟨w3.heap.size, 2, none⟩ = some (.int .u64 (seed : Nat)) := fun x => (x.cell _ _ zy).trans (cell_of_row _ _ 2 _ _ _ py)
  have qy3 : ∀ x : Later w9.heap.size w9, x.w.cell? ⟨w3.heap.size, 3, none⟩ = some (.slice ay_0 L cy_0) := fun x => (x.cell _ _ zy).trans (cell_of_row _ _ 3 _ _ _ py)
  have qy4 : ∀ x : Later w9.heap.size w9, x.w.cell? ⟨w3.heap.size, 4, none⟩ = some (.slice ay_1 L cy_1) := fun x => (x.cell _ _ zy).trans (cell_of_row _ _ 4 _ _ _ py)
  have qy5 : ∀ x : Later w9.heap.size w9, x.w.cell? ⟨w3.heap.size, 5, none⟩ = some (.slice ay_2 L cy_2) := fun x => (x.cell _ _ zy).trans (cell_of_row _ _ 5 _ _ _ py)
  have qq0 : ∀ x : Later w9.heap.size w9, x.w.cell? ⟨w5.heap.size, 0, none⟩ = some (.int .i64 (M : Nat)) := fun x => (x.cell _ _ zq).trans (cell_of_row _ _ 0 _ _ _ pq)
  have qq1 : ∀ x : Later w9.heap.size w9, x.w.cell? ⟨w5.heap.size, 1, none⟩ = some (.int .i64 (K : Nat)) := fun x => (x.cell _ _ zq).trans (cell_of_row _ _ 1 _ _ _ pq)
  have qq2 : ∀ x : Later w9.heap.size w9, x.w.cell? ⟨w5.heap.size, 2, none⟩ = some (.int .u64 (seed : Nat)) := fun x => (x.cell _ _ zq).trans (cell_of_row _ _ 2 _ _ _ pq)
  have qq3 : ∀ x : Later w9.heap.size w9, x.w.cell? ⟨w5.heap.size, 3, none⟩ = some (.slice aq_0 L cq_0) := fun x => (x.cell _ _ zq).trans (cell_of_row _ _ 3 _ _ _ pq)
  have qq4 : ∀ x : Later w9.heap.size w9, x.w.cell? ⟨w5.heap.size, 4, none⟩ = some (.slice aq_1 L cq_1) := fun x => (x.cell _ _ zq).trans (cell_of_row _ _ 4 _ _ _ pq)
  have qq5 : ∀ x : Later w9.heap.size w9, x.w.cell? ⟨w5.heap.size, 5, none⟩ = some (.slice aq_2 L cq_2) := fun x => (x.cell _ _ zq).trans (cell_of_row _ _ 5 _ _ _ pq)
  have qx0 : ∀ x : Later w9.heap.size w9, x.w.cell? ⟨w2.heap.size, 0, none⟩ = some (.int .i64 (M : Nat)) := fun x => (x.cell _ _ zx).trans (cell_of_row _ _ 0 _ _ _ px)
  have qx1 : ∀ x : Later w9.heap.size w9, x.w.cell? ⟨w2.heap.size, 1, none⟩ = some (.int .i64 (K : Nat)) := fun x => (x.cell _ _ zx).trans (cell_of_row _ _ 1 _ _ _ px)
  have qx2 : ∀ x : Later w9.heap.size w9, x.w.cell? ⟨w2.heap.size, 2, none⟩ = some (.int .u64 (seed : Nat)) := fun x => (x.cell _ _ zx).trans (cell_of_row _ _ 2 _ _ _ px)
  have qx3 : ∀ x : Later w9.heap.size w9, x.w.cell? ⟨w2.heap.size, 3, none⟩ = some (.slice ax_0 L cx_0) := fun x => (x.cell _ _ zx).trans (cell_of_row _ _ 3 _ _ _ px)
  have qx4 : ∀ x : Later w9.heap.size w9, x.w.cell? ⟨w2.heap.size, 4, none⟩ = some (.slice ax_1 L cx_1) := fun x => (x.cell _ _ zx).trans (cell_of_row _ _ 4 _ _ _ px)
  have qx5 : ∀ x : Later w9.heap.size w9, x.w.cell? ⟨w2.heap.size, 5, none⟩ = some (.slice ax_2 L cx_2) := fun x => (x.cell _ _ zx).trans (cell_of_row _ _ 5 _ _ _ px)
  have e1 : decide (NX ≤ K) = true := by simpa using o6
  have e2 : ((N : Int) == (N : Int)) = true := by simp
  have e3 : (T == T) = true := by simp
  clear hN hT hR hNX o1 o2 o3 o4 o6 hs ps zs hx px zx hy py zy hp pp zp hq pq zq
  clear hA hB hC hX hY hP hQ hZ hPA hPB hPC
  cases R with
  | false =>
    go_wp2_with fail
    try rw [hw9]
    refine wp_region_later w9.heap.size w9 (by kernel_rfl) (by kernel_rfl) (Below.refl _ _) ?_
    repeat (go_big_quiet_step ((first | (go_at_call_of 19 as_0; refine Calls.later0 (n1 _)) | (go_at_call_of 17 as_0; refine Calls.later0 (n2 _)) | (go_at_call_of 19 ay_0; refine Calls.later0 (n3 _)) | (go_at_call_of 19 aq_0; refine Calls.later0 (n4 _)) | (go_at_call_of 17 ay_0; refine Calls.later0 (n5 _)) | (go_at_call_of 17 aq_0; refine Calls.later0 (n6 _)) | (go_at_call_of 17 ax_0; refine Calls.later0 (n7 _)) | (go_at_call_of 19 ax_0; refine Calls.later0 (n8 _)))))
    refine wpQuiet_nil ?_
    intro _ hx
    obtain ⟨x, rfl⟩ := hx
    have hbx := below_then bt x.below
    go_wp2
    go_ret
    exact ⟨rfl, hbx⟩
  | true =>
    have hT : T = true := o5 rfl
    subst hT
    go_wp2_with fail
    try rw [hw9]
    refine wp_region_later w9.heap.size w9 (by kernel_rfl) (by kernel_rfl) (Below.refl _ _) ?_
    repeat (go_big_quiet_step ((first | (go_at_call_of 19 as_0; refine Calls.later0 (n1 _)) | (go_at_call_of 17 as_0; refine Calls.later0 (n2 _)) | (go_at_call_of 19 ay_0; refine Calls.later0 (n3 _)) | (go_at_call_of 19 aq_0; refine Calls.later0 (n4 _)) | (go_at_call_of 17 ay_0; refine Calls.later0 (n5 _)) | (go_at_call_of 17 aq_0; refine Calls.later0 (n6 _)) | (go_at_call_of 17 ax_0; refine Calls.later0 (n7 _)) | (go_at_call_of 19 ax_0; refine Calls.later0 (n8 _)))))
    refine wpQuiet_nil ?_
    intro _ hx
    obtain ⟨x, rfl⟩ := hx
    have hbx := below_then bt x.below
    go_wp2
    go_ret
    exact ⟨rfl, hbx⟩
theorem blurold_any (w : World) (m k seed : Nat) (aa ab ac : Option Addr) (la ca lb cb lc cc : Nat) (A B C : List Nat) (hm : m < 65536) (hk : k < 256) (sd : seed < 18446744073709551616) (hA : BytesAt w aa la ca A) (hB : BytesAt w ab lb cb B) (hC : BytesAt w ac lc cc C) :
    Calls Try.prog 5 #[.agg #[.int .u16 (m : Nat), .int .u8 (k : Nat), .int .u64 (seed : Nat), .slice aa la ca, .slice ab lb cb, .slice ac lc cc]] w fun e w' => e = .returned (.bool true) ∧ Below w.heap.size w w' := by
  by_cases h : 100 < la ∨ 100 < lb ∨ 100 < lc
  · exact blurold_big w m k seed aa ab ac la ca lb cb lc cc A B C hm hk sd h
  · exact blurold_small w m k seed aa ab ac la ca lb cb lc cc A B C hm hk sd (by omega) (by omega) (by omega) hA hB hC
end Go.Proofs.Ytcnpomejdnpegaa
