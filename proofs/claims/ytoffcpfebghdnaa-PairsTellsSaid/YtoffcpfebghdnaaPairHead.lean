/- The head of all statements of layer 5: the document's example holds (by gen05s.py). -/
import Derived.Test.YtoffcpfebghdnaaPairC
namespace Go.Proofs.Ytoffcpfebghdnaa
open Go.RowKit
set_option linter.unusedVariables false
set_option linter.unusedSimpArgs false

theorem OutP.new {cap : Int} {ks : List (List Nat)} {key : List Nat} {p : Nat} {F : Bool} {E : Int} {k1 : List (List Nat)} (h : OutP cap ks key p F E k1) (h1 : key ∉ ks) (h2 : (ks.length : Int) < cap) : F = true ∧ E = 0 ∧ k1 = ks ++ [key] ∧ p = ks.length := by
  rcases h with ⟨a1, _⟩ | ⟨_, a2, _⟩ | ⟨_, _, a3, a4, a5, a6⟩
  · exact absurd a1 h1
  · omega
  · exact ⟨a3, a4, a5, a6⟩
theorem OutP.full {cap : Int} {ks : List (List Nat)} {key : List Nat} {p : Nat} {F : Bool} {E : Int} {k1 : List (List Nat)} (h : OutP cap ks key p F E k1) (h1 : key ∉ ks) (h2 : cap ≤ (ks.length : Int)) : F = false ∧ E = 7 ∧ k1 = ks ∧ p = 0 := by
  rcases h with ⟨a1, _⟩ | ⟨_, _, a3, a4, a5, a6⟩ | ⟨_, a2, _⟩
  · exact absurd a1 h1
  · exact ⟨a3, a4, a5, a6⟩
  · omega
theorem OutP.old {cap : Int} {ks : List (List Nat)} {key : List Nat} {p : Nat} {F : Bool} {E : Int} {k1 : List (List Nat)} (h : OutP cap ks key p F E k1) (hnd : ks.Nodup) (q : Nat) (h1 : q < ks.length) (h2 : ks.getD q [] = key) : F = false ∧ E = 0 ∧ k1 = ks ∧ p = q := by
  have hm : key ∈ ks := h2 ▸ getD_mem h1
  rcases h with ⟨_, a3, a4, a5, a6, a7⟩ | ⟨a1, _⟩ | ⟨a1, _⟩
  · exact ⟨a3, a4, a5, getD_inj hnd a6 h1 (by rw [a7, h2])⟩
  · exact absurd hm a1
  · exact absurd hm a1
set_option maxRecDepth 100000 in
set_option maxHeartbeats 8000000 in
theorem shown_any (w : World) : Calls Try.prog 4 #[] w fun e w' => e = .returned (.bool true) ∧ Below w.heap.size w w' := by
  go_enter Try.func4, Try.ntmps4
  go_wp2_with fail
  refine (newP_ok _ 2 (by decide)).mono ?_
  rintro e w0 ⟨rfl, bt⟩
  have A := (Below.refl w0.heap.size w0).alloc (Nat.le_refl _) (.cells #[.int .i64 2, .slice none 0 0, .slice none 0 0] 32)
  have pt : (w0.alloc (.cells #[.int .i64 2, .slice none 0 0, .slice none 0 0] 32)).heap[w0.heap.size]? = some (.cells #[.int .i64 2, .slice none 0 0, .slice none 0 0] 32 (0, 0)) := heap_alloc_new _ _
  replace bt := below_then bt A
  go_upto_region 2 with (first | fail)
  obtain ⟨v1, hv⟩ : ∃ v, w0.alloc (.cells #[.int .i64 2, .slice none 0 0, .slice none 0 0] 32) = v := ⟨_, rfl⟩
  obtain ⟨gt, hg⟩ : ∃ g, w0.heap.size = g := ⟨_, rfl⟩
  rw [hv] at pt bt ⊢
  rw [hg] at pt ⊢
  clear hv hg A
  go_wp2_with (first | (refine wpList_load_row rfl 32 _ rfl gt rfl 32 #[.int .i64 2, .slice none 0 0, .slice none 0 0] (0, 0) _ pt Try.underlying32 rfl (by kernel_rfl) ?_) | fail)
  refine (insertP_all v1 2 (by decide) (by decide) w.heap.size none 0 0 none 0 0 [] [] [] (TabM.empty _ w.heap.size) bt.size 1 2 (by decide) (by decide) (by decide)).mono ?_
  rintro e w2 ⟨ka_a, n_a, kc_a, sa_a, sl_a, sc_a, ks_a, s_a, rs_a, p_a, F_a, E_a, rfl, Mx, Mo, bx, HT, hout, hst⟩
  obtain ⟨rfl, rfl, rfl, rfl⟩ : F_a = true ∧ E_a = 0 ∧ ks_a = [pk 1 2] ∧ p_a = 0 := hout.new (by decide) (by decide)
  have hl : [pk 1 2].length = n_a := Mx.rd.len
  obtain rfl : n_a = 1 := hl.symm
  replace pt := HT.recd gt _ _ _ pt (by decide) (by decide)
  have Ma := Mx
  replace bt := bt.trans bx
  clear Mx Mo bx HT hout hst hl
  have A := (Below.refl w2.heap.size w2).alloc (Nat.le_refl _) (.cells #[.int .i64 2, .slice ka_a 1 kc_a, .slice sa_a sl_a sc_a] 32)
  have pa : (w2.alloc (.cells #[.int .i64 2, .slice ka_a 1 kc_a, .slice sa_a sl_a sc_a] 32)).heap[w2.heap.size]? = some (.cells #[.int .i64 2, .slice ka_a 1 kc_a, .slice sa_a sl_a sc_a] 32 (0, 0)) := heap_alloc_new _ _
  replace pt := (A.block gt (Array.getElem?_eq_some_iff.1 pt).1).trans pt
  replace Ma := Ma.mono A
  replace bt := below_then bt A
  go_upto_region 3 with (first | (refine wpList_load_row rfl 32 _ rfl gt rfl 32 #[.int .i64 2, .slice none 0 0, .slice none 0 0] (0, 0) _ pt Try.underlying32 rfl (by kernel_rfl) ?_) | fail)
  obtain ⟨v3, hv⟩ : ∃ v, w2.alloc (.cells #[.int .i64 2, .slice ka_a 1 kc_a, .slice sa_a sl_a sc_a] 32) = v := ⟨_, rfl⟩
  obtain ⟨ga, hg⟩ : ∃ g, w2.heap.size = g := ⟨_, rfl⟩
  rw [hv] at pt pa Ma bt ⊢
  rw [hg] at pa ⊢
  clear hv hg A
  go_wp2_with (first | (refine wpList_load_row rfl 32 _ rfl ga rfl 32 #[.int .i64 2, .slice ka_a 1 kc_a, .slice sa_a sl_a sc_a] (0, 0) _ pa Try.underlying32 rfl (by kernel_rfl) ?_) | fail)
  refine (insertP_all v3 2 (by decide) (by decide) w.heap.size ka_a 1 kc_a sa_a sl_a sc_a [pk 1 2] s_a rs_a Ma bt.size 2 1 (by decide) (by decide) (by decide)).mono ?_
  rintro e w4 ⟨ka_b, n_b, kc_b, sa_b, sl_b, sc_b, ks_b, s_b, rs_b, p_b, F_b, E_b, rfl, Mx, Mo, bx, HT, hout, hst⟩
  obtain ⟨rfl, rfl, rfl, rfl⟩ : F_b = true ∧ E_b = 0 ∧ ks_b = [pk 1 2, pk 2 1] ∧ p_b = 1 := hout.new (by decide) (by decide)
  have hl : [pk 1 2, pk 2 1].length = n_b := Mx.rd.len
  obtain rfl : n_b = 2 := hl.symm
  replace pt := HT.recd gt _ _ _ pt (by decide) (by decide)
  replace pa := HT.recd ga _ _ _ pa (by decide) (by decide)
  replace Ma := Mo
  have Mb := Mx
  replace bt := bt.trans bx
  clear Mx Mo bx HT hout hst hl
  have A := (Below.refl w4.heap.size w4).alloc (Nat.le_refl _) (.cells #[.int .i64 2, .slice ka_b 2 kc_b, .slice sa_b sl_b sc_b] 32)
  have pb : (w4.alloc (.cells #[.int .i64 2, .slice ka_b 2 kc_b, .slice sa_b sl_b sc_b] 32)).heap[w4.heap.size]? = some (.cells #[.int .i64 2, .slice ka_b 2 kc_b, .slice sa_b sl_b sc_b] 32 (0, 0)) := heap_alloc_new _ _
  replace pt := (A.block gt (Array.getElem?_eq_some_iff.1 pt).1).trans pt
  replace pa := (A.block ga (Array.getElem?_eq_some_iff.1 pa).1).trans pa
  replace Ma := Ma.mono A
  replace Mb := Mb.mono A
  replace bt := below_then bt A
  go_upto_region 4 with (first | (refine wpList_load_row rfl 32 _ rfl gt rfl 32 #[.int .i64 2, .slice none 0 0, .slice none 0 0] (0, 0) _ pt Try.underlying32 rfl (by kernel_rfl) ?_) | (refine wpList_load_row rfl 32 _ rfl ga rfl 32 #[.int .i64 2, .slice ka_a 1 kc_a, .slice sa_a sl_a sc_a] (0, 0) _ pa Try.underlying32 rfl (by kernel_rfl) ?_) | fail)
  obtain ⟨v5, hv⟩ : ∃ v, w4.alloc (.cells #[.int .i64 2, .slice ka_b 2 kc_b, .slice sa_b sl_b sc_b] 32) = v := ⟨_, rfl⟩
  obtain ⟨gb, hg⟩ : ∃ g, w4.heap.size = g := ⟨_, rfl⟩
  rw [hv] at pt pa pb Ma Mb bt ⊢
  rw [hg] at pb ⊢
  clear hv hg A
  go_wp2_with (first | (refine wpList_load_row rfl 32 _ rfl gb rfl 32 #[.int .i64 2, .slice ka_b 2 kc_b, .slice sa_b sl_b sc_b] (0, 0) _ pb Try.underlying32 rfl (by kernel_rfl) ?_) | fail)
  refine (insertP_all v5 2 (by decide) (by decide) w.heap.size ka_b 2 kc_b sa_b sl_b sc_b [pk 1 2, pk 2 1] s_b rs_b Mb bt.size 1 2 (by decide) (by decide) (by decide)).mono ?_
  rintro e w6 ⟨ka_c, n_c, kc_c, sa_c, sl_c, sc_c, ks_c, s_c, rs_c, p_c, F_c, E_c, rfl, Mx, Mo, bx, HT, hout, hst⟩
  obtain ⟨rfl, rfl, rfl, rfl⟩ : F_c = false ∧ E_c = 0 ∧ ks_c = [pk 1 2, pk 2 1] ∧ p_c = 0 := hout.old (by decide) 0 (by decide) (by decide)
  obtain ⟨b2, e1, e2, e3, e4, e5, e6⟩ := hst rfl
  obtain rfl := e1.symm
  obtain rfl := e2.symm
  obtain rfl := e3.symm
  obtain rfl := e4.symm
  obtain rfl := e5.symm
  obtain rfl := e6.symm
  clear Mx Mo bx HT hout hst
  replace pt := (b2.block gt (Array.getElem?_eq_some_iff.1 pt).1).trans pt
  replace pa := (b2.block ga (Array.getElem?_eq_some_iff.1 pa).1).trans pa
  replace pb := (b2.block gb (Array.getElem?_eq_some_iff.1 pb).1).trans pb
  replace Ma := Ma.mono b2
  replace Mb := Mb.mono b2
  replace bt := below_then bt b2
  clear b2
  have A := (Below.refl w6.heap.size w6).alloc (Nat.le_refl _) (.cells #[.int .i64 2, .slice ka_b 2 kc_b, .slice sa_b sl_b sc_b] 32)
  have pc : (w6.alloc (.cells #[.int .i64 2, .slice ka_b 2 kc_b, .slice sa_b sl_b sc_b] 32)).heap[w6.heap.size]? = some (.cells #[.int .i64 2, .slice ka_b 2 kc_b, .slice sa_b sl_b sc_b] 32 (0, 0)) := heap_alloc_new _ _
  replace pt := (A.block gt (Array.getElem?_eq_some_iff.1 pt).1).trans pt
  replace pa := (A.block ga (Array.getElem?_eq_some_iff.1 pa).1).trans pa
  replace pb := (A.block gb (Array.getElem?_eq_some_iff.1 pb).1).trans pb
  replace Ma := Ma.mono A
  replace Mb := Mb.mono A
  replace bt := below_then bt A
  go_upto_region 5 with (first | (refine wpList_load_row rfl 32 _ rfl gt rfl 32 #[.int .i64 2, .slice none 0 0, .slice none 0 0] (0, 0) _ pt Try.underlying32 rfl (by kernel_rfl) ?_) | (refine wpList_load_row rfl 32 _ rfl ga rfl 32 #[.int .i64 2, .slice ka_a 1 kc_a, .slice sa_a sl_a sc_a] (0, 0) _ pa Try.underlying32 rfl (by kernel_rfl) ?_) | (refine wpList_load_row rfl 32 _ rfl gb rfl 32 #[.int .i64 2, .slice ka_b 2 kc_b, .slice sa_b sl_b sc_b] (0, 0) _ pb Try.underlying32 rfl (by kernel_rfl) ?_) | fail)
  obtain ⟨v7, hv⟩ : ∃ v, w6.alloc (.cells #[.int .i64 2, .slice ka_b 2 kc_b, .slice sa_b sl_b sc_b] 32) = v := ⟨_, rfl⟩
  obtain ⟨gc, hg⟩ : ∃ g, w6.heap.size = g := ⟨_, rfl⟩
  rw [hv] at pt pa pb pc Ma Mb bt ⊢
  rw [hg] at pc ⊢
  clear hv hg A
  go_wp2_with (first | (refine wpList_load_row rfl 32 _ rfl gb rfl 32 #[.int .i64 2, .slice ka_b 2 kc_b, .slice sa_b sl_b sc_b] (0, 0) _ pb Try.underlying32 rfl (by kernel_rfl) ?_) | fail)
  refine (insertP_all v7 2 (by decide) (by decide) w.heap.size ka_b 2 kc_b sa_b sl_b sc_b [pk 1 2, pk 2 1] s_b rs_b Mb bt.size 2 2 (by decide) (by decide) (by decide)).mono ?_
  rintro e w8 ⟨ka_d, n_d, kc_d, sa_d, sl_d, sc_d, ks_d, s_d, rs_d, p_d, F_d, E_d, rfl, Mx, Mo, bx, HT, hout, hst⟩
  obtain ⟨rfl, rfl, rfl, rfl⟩ : F_d = false ∧ E_d = 7 ∧ ks_d = [pk 1 2, pk 2 1] ∧ p_d = 0 := hout.full (by decide) (by decide)
  obtain ⟨b2, e1, e2, e3, e4, e5, e6⟩ := hst rfl
  obtain rfl := e1.symm
  obtain rfl := e2.symm
  obtain rfl := e3.symm
  obtain rfl := e4.symm
  obtain rfl := e5.symm
  obtain rfl := e6.symm
  clear Mx Mo bx HT hout hst
  replace pt := (b2.block gt (Array.getElem?_eq_some_iff.1 pt).1).trans pt
  replace pa := (b2.block ga (Array.getElem?_eq_some_iff.1 pa).1).trans pa
  replace pb := (b2.block gb (Array.getElem?_eq_some_iff.1 pb).1).trans pb
  replace pc := (b2.block gc (Array.getElem?_eq_some_iff.1 pc).1).trans pc
  replace Ma := Ma.mono b2
  replace Mb := Mb.mono b2
  replace bt := below_then bt b2
  clear b2
  have A := (Below.refl w8.heap.size w8).alloc (Nat.le_refl _) (.cells #[.int .i64 2, .slice ka_b 2 kc_b, .slice sa_b sl_b sc_b] 32)
  have pd : (w8.alloc (.cells #[.int .i64 2, .slice ka_b 2 kc_b, .slice sa_b sl_b sc_b] 32)).heap[w8.heap.size]? = some (.cells #[.int .i64 2, .slice ka_b 2 kc_b, .slice sa_b sl_b sc_b] 32 (0, 0)) := heap_alloc_new _ _
  replace pt := (A.block gt (Array.getElem?_eq_some_iff.1 pt).1).trans pt
  replace pa := (A.block ga (Array.getElem?_eq_some_iff.1 pa).1).trans pa
  replace pb := (A.block gb (Array.getElem?_eq_some_iff.1 pb).1).trans pb
  replace pc := (A.block gc (Array.getElem?_eq_some_iff.1 pc).1).trans pc
  replace Ma := Ma.mono A
  replace Mb := Mb.mono A
  replace bt := below_then bt A
  go_upto_region 6 with (first | (refine wpList_load_row rfl 32 _ rfl gt rfl 32 #[.int .i64 2, .slice none 0 0, .slice none 0 0] (0, 0) _ pt Try.underlying32 rfl (by kernel_rfl) ?_) | (refine wpList_load_row rfl 32 _ rfl ga rfl 32 #[.int .i64 2, .slice ka_a 1 kc_a, .slice sa_a sl_a sc_a] (0, 0) _ pa Try.underlying32 rfl (by kernel_rfl) ?_) | (refine wpList_load_row rfl 32 _ rfl gb rfl 32 #[.int .i64 2, .slice ka_b 2 kc_b, .slice sa_b sl_b sc_b] (0, 0) _ pb Try.underlying32 rfl (by kernel_rfl) ?_) | (refine wpList_load_row rfl 32 _ rfl gc rfl 32 #[.int .i64 2, .slice ka_b 2 kc_b, .slice sa_b sl_b sc_b] (0, 0) _ pc Try.underlying32 rfl (by kernel_rfl) ?_) | fail)
  obtain ⟨v9, hv⟩ : ∃ v, w8.alloc (.cells #[.int .i64 2, .slice ka_b 2 kc_b, .slice sa_b sl_b sc_b] 32) = v := ⟨_, rfl⟩
  obtain ⟨gd, hg⟩ : ∃ g, w8.heap.size = g := ⟨_, rfl⟩
  rw [hv] at pt pa pb pc pd Ma Mb bt ⊢
  rw [hg] at pd ⊢
  clear hv hg A
  go_wp2_with (first | (refine wpList_load_row rfl 32 _ rfl gb rfl 32 #[.int .i64 2, .slice ka_b 2 kc_b, .slice sa_b sl_b sc_b] (0, 0) _ pb Try.underlying32 rfl (by kernel_rfl) ?_) | fail)
  refine (findP_any _ 2 ka_b 2 kc_b sa_b sl_b sc_b [pk 1 2, pk 2 1] s_b rs_b Mb.rd 2 1 (by decide) (by decide)).mono ?_
  rintro e w10 ⟨⟨p, rfl, hp1, hp2⟩, b1⟩
  replace pt := (b1.block gt (Array.getElem?_eq_some_iff.1 pt).1).trans pt
  replace pa := (b1.block ga (Array.getElem?_eq_some_iff.1 pa).1).trans pa
  replace pb := (b1.block gb (Array.getElem?_eq_some_iff.1 pb).1).trans pb
  replace pc := (b1.block gc (Array.getElem?_eq_some_iff.1 pc).1).trans pc
  replace pd := (b1.block gd (Array.getElem?_eq_some_iff.1 pd).1).trans pd
  replace Ma := Ma.mono b1
  replace Mb := Mb.mono b1
  replace bt := below_then bt b1
  clear b1
  rw [decide_eq_true (show pk 2 1 ∈ [pk 1 2, pk 2 1] by decide)]
  obtain rfl : p = 1 := getD_inj (ks := [pk 1 2, pk 2 1]) (by decide) (hp1 (by decide)).1 (by decide) ((hp1 (by decide)).2.trans (by decide))
  clear hp1 hp2
  go_wp2_with (first | (refine wpList_load_row rfl 32 _ rfl ga rfl 32 #[.int .i64 2, .slice ka_a 1 kc_a, .slice sa_a sl_a sc_a] (0, 0) _ pa Try.underlying32 rfl (by kernel_rfl) ?_) | fail)
  refine (findP_any _ 2 ka_a 1 kc_a sa_a sl_a sc_a [pk 1 2] s_a rs_a Ma.rd 2 1 (by decide) (by decide)).mono ?_
  rintro e w11 ⟨⟨p, rfl, hp1, hp2⟩, b1⟩
  replace pt := (b1.block gt (Array.getElem?_eq_some_iff.1 pt).1).trans pt
  replace pa := (b1.block ga (Array.getElem?_eq_some_iff.1 pa).1).trans pa
  replace pb := (b1.block gb (Array.getElem?_eq_some_iff.1 pb).1).trans pb
  replace pc := (b1.block gc (Array.getElem?_eq_some_iff.1 pc).1).trans pc
  replace pd := (b1.block gd (Array.getElem?_eq_some_iff.1 pd).1).trans pd
  replace Ma := Ma.mono b1
  replace Mb := Mb.mono b1
  replace bt := below_then bt b1
  clear b1
  rw [decide_eq_false (show pk 2 1 ∉ [pk 1 2] by decide)]
  obtain rfl : p = 0 := hp2 (by decide)
  clear hp1 hp2
  go_wp2_with (first | (refine wpList_load_row rfl 32 _ rfl gb rfl 32 #[.int .i64 2, .slice ka_b 2 kc_b, .slice sa_b sl_b sc_b] (0, 0) _ pb Try.underlying32 rfl (by kernel_rfl) ?_) | fail)
  refine (pairP_ok _ 2 ka_b 2 kc_b sa_b sl_b sc_b [pk 1 2, pk 2 1] s_b rs_b Mb.rd (by decide) 1 (by decide) 2 1 (by decide) (by decide) rfl).mono ?_
  rintro e w12 ⟨rfl, b1⟩
  replace pt := (b1.block gt (Array.getElem?_eq_some_iff.1 pt).1).trans pt
  replace pa := (b1.block ga (Array.getElem?_eq_some_iff.1 pa).1).trans pa
  replace pb := (b1.block gb (Array.getElem?_eq_some_iff.1 pb).1).trans pb
  replace pc := (b1.block gc (Array.getElem?_eq_some_iff.1 pc).1).trans pc
  replace pd := (b1.block gd (Array.getElem?_eq_some_iff.1 pd).1).trans pd
  replace Ma := Ma.mono b1
  replace Mb := Mb.mono b1
  replace bt := below_then bt b1
  clear b1
  go_wp2_with (first | (refine wpList_load_row rfl 32 _ rfl gb rfl 32 #[.int .i64 2, .slice ka_b 2 kc_b, .slice sa_b sl_b sc_b] (0, 0) _ pb Try.underlying32 rfl (by kernel_rfl) ?_) | fail)
  refine (pairP_bad _ 2 ka_b 2 kc_b sa_b sl_b sc_b 2 (by decide) (by decide)).mono ?_
  rintro e w13 ⟨rfl, b1⟩
  replace pt := (b1.block gt (Array.getElem?_eq_some_iff.1 pt).1).trans pt
  replace pa := (b1.block ga (Array.getElem?_eq_some_iff.1 pa).1).trans pa
  replace pb := (b1.block gb (Array.getElem?_eq_some_iff.1 pb).1).trans pb
  replace pc := (b1.block gc (Array.getElem?_eq_some_iff.1 pc).1).trans pc
  replace pd := (b1.block gd (Array.getElem?_eq_some_iff.1 pd).1).trans pd
  replace Ma := Ma.mono b1
  replace Mb := Mb.mono b1
  replace bt := below_then bt b1
  clear b1
  go_wp2_with (first | (refine wpList_load_row rfl 32 _ rfl gb rfl 32 #[.int .i64 2, .slice ka_b 2 kc_b, .slice sa_b sl_b sc_b] (0, 0) _ pb Try.underlying32 rfl (by kernel_rfl) ?_) | fail)
  refine (newP_bad _ (-1) (by decide)).mono ?_
  rintro e w14 ⟨rfl, b1⟩
  replace pt := (b1.block gt (Array.getElem?_eq_some_iff.1 pt).1).trans pt
  replace pa := (b1.block ga (Array.getElem?_eq_some_iff.1 pa).1).trans pa
  replace pb := (b1.block gb (Array.getElem?_eq_some_iff.1 pb).1).trans pb
  replace pc := (b1.block gc (Array.getElem?_eq_some_iff.1 pc).1).trans pc
  replace pd := (b1.block gd (Array.getElem?_eq_some_iff.1 pd).1).trans pd
  replace Ma := Ma.mono b1
  replace Mb := Mb.mono b1
  replace bt := below_then bt b1
  clear b1
  have A := (Below.refl w14.heap.size w14).alloc (Nat.le_refl _) (.cells #[.int .i64 0, .slice none 0 0, .slice none 0 0] 32)
  replace pb := (A.block gb (Array.getElem?_eq_some_iff.1 pb).1).trans pb
  replace bt := below_then bt A
  have q0 := cell_of_row _ _ 0 _ _ _ pb
  have q1 := cell_of_row _ _ 1 _ _ _ pb
  have q2 := cell_of_row _ _ 2 _ _ _ pb
  simp only [List.getElem?_toArray, List.getElem?_cons_zero, List.getElem?_cons_succ] at q0 q1 q2
  go_wp2_with fail
  refine (manyP_any _ 2 ka_b 2 kc_b sa_b sl_b sc_b (by decide)).mono ?_
  rintro e wz ⟨rfl, b1⟩
  go_wp2_with fail
  go_ret
  exact ⟨rfl, below_then bt b1⟩
end Go.Proofs.Ytoffcpfebghdnaa
