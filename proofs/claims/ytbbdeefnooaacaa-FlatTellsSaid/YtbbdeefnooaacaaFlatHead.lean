/- The head of all statements of layer 6: the document's example holds (by gen06s.py). -/
import Derived.Test.YtbbdeefnooaacaaFlatC
import Derived.Lib.SlBytesConst
namespace Go.Proofs.Ytbbdeefnooaacaa
open Go.RowKit
set_option linter.unusedVariables false
set_option linter.unusedSimpArgs false

theorem OutP.new {cap : Int} {ks : List (List Nat)} {key : List Nat} {p : Nat} {F : Bool} {E : Int} {k1 : List (List Nat)} (h : OutP cap ks key p F E k1) (h1 : key ∉ ks) (h2 : (ks.length : Int) < cap) : F = true ∧ E = 0 ∧ k1 = ks ++ [key] ∧ p = ks.length := by
  rcases h with ⟨a1, _⟩ | ⟨_, a2, _⟩ | ⟨_, _, a3, a4, a5, a6⟩
  · exact absurd a1 h1
  · omega
  · exact ⟨a3, a4, a5, a6⟩
theorem OutP.full {cap : Int} {ks : List (List Nat)} {key : List Nat} {p : Nat} {F : Bool} {E : Int} {k1 : List (List Nat)} (h : OutP cap ks key p F E k1) (h1 : key ∉ ks) (h2 : cap ≤ (ks.length : Int)) : F = false ∧ E = 7 ∧ k1 = ks ∧ p = 0 := by
  rcases h with ⟨a1, _⟩ | ⟨_, _, a3, a4, a5, a6⟩ | ⟨_, a2, _⟩
  · exact absurd a1 h1
  · exact ⟨a3, a4, a5, a6⟩
  · omega
theorem OutP.old {cap : Int} {ks : List (List Nat)} {key : List Nat} {p : Nat} {F : Bool} {E : Int} {k1 : List (List Nat)} (h : OutP cap ks key p F E k1) (hnd : ks.Nodup) (q : Nat) (h1 : q < ks.length) (h2 : ks.getD q [] = key) : F = false ∧ E = 0 ∧ k1 = ks ∧ p = q := by
  have hm : key ∈ ks := h2 ▸ getD_mem h1
  rcases h with ⟨_, a3, a4, a5, a6, a7⟩ | ⟨a1, _⟩ | ⟨a1, _⟩
  · exact ⟨a3, a4, a5, getD_inj hnd a6 h1 (by rw [a7, h2])⟩
  · exact absurd hm a1
  · exact absurd hm a1
theorem BytesAt.none_nil (w : World) : BytesAt w none 0 0 [] := ⟨rfl, by omega, (fun n hn => by cases hn), (fun _ => ⟨rfl, rfl⟩), .inl rfl⟩
set_option maxRecDepth 100000 in
set_option maxHeartbeats 8000000 in
theorem shown_any (w : World) : Calls Try.prog 4 #[] w fun e w' => e = .returned (.bool true) ∧ Below w.heap.size w w' := by
  have kc := fun (w : World) (C : Array Value) (n c : Nat) => Lib.run_convert_bytes_const (P := Try.prog) w 29 5 C n c Try.underlying29 Try.underlying5
  go_enter Try.func4, Try.ntmps4
  go_wp2_with fail
  refine (newF_ok _ 1 (by decide)).mono ?_
  rintro e w0 ⟨rfl, bt⟩
  have A := (Below.refl w0.heap.size w0).alloc (Nat.le_refl _) (.cells #[.int .i64 1, .slice none 0 0, .slice none 0 0, .slice none 0 0] 31)
  have pt : (w0.alloc (.cells #[.int .i64 1, .slice none 0 0, .slice none 0 0, .slice none 0 0] 31)).heap[w0.heap.size]? = some (.cells #[.int .i64 1, .slice none 0 0, .slice none 0 0, .slice none 0 0] 31 (0, 0)) := heap_alloc_new _ _
  replace bt := below_then bt A
  go_upto_region 2 with (first | fail)
  obtain ⟨v1, hv⟩ : ∃ v, w0.alloc (.cells #[.int .i64 1, .slice none 0 0, .slice none 0 0, .slice none 0 0] 31) = v := ⟨_, rfl⟩
  obtain ⟨gt, hg⟩ : ∃ g, w0.heap.size = g := ⟨_, rfl⟩
  rw [hv] at pt bt ⊢
  rw [hg] at pt ⊢
  clear hv hg A
  have K := (Below.refl v1.heap.size v1).alloc (Nat.le_refl _) (.cells #[.int .u8 97] 5 (1, 2))
  have hk := bytesNew v1 97 (by decide)
  have k1 := kc v1 #[.int .u8 97] 1 1
  go_wp2_with (first | (refine wpList_load_row rfl 31 _ rfl gt rfl 31 #[.int .i64 1, .slice none 0 0, .slice none 0 0, .slice none 0 0] (0, 0) _ pt Try.underlying31 rfl (by kernel_rfl) ?_) | fail)
  refine (insertF_all (v1.alloc (.cells #[.int .u8 97] 5 (1, 2))) 1 (by decide) (by decide) w.heap.size none 0 0 none 0 0 none 0 0 [] [] [] ((TabM.empty _ w.heap.size).mono K) (Nat.le_trans bt.size K.size) (some ⟨v1.heap.size, 0, none⟩) 1 1 [97] hk (by decide) (by decide)).mono ?_
  rintro e w2 ⟨ka_a, n_a, kc_a, sa_a, sl_a, sc_a, ks_a, s_a, rs_a, p_a, F_a, E_a, rfl, Mx, Mo, bx, HT, hout, hst⟩
  replace HT := HT.pre K
  replace hst := hst.pre K
  obtain ⟨rfl, rfl, rfl, rfl⟩ : F_a = true ∧ E_a = 0 ∧ ks_a = [[97]] ∧ p_a = 0 := hout.new (by decide) (by decide)
  have hl : [[97]].length = n_a := Mx.rd.len
  obtain rfl : n_a = 1 := hl.symm
  replace pt := HT.recd gt _ _ _ pt (by decide) (by decide)
  have Ma := Mx
  replace bt := bt.trans ((K.mono bt.size).trans bx)
  clear Mx Mo bx HT hout hst hl K hk k1
  have A := (Below.refl w2.heap.size w2).alloc (Nat.le_refl _) (.cells #[.int .i64 1, .slice ka_a 1 kc_a, .slice sa_a sl_a sc_a, .slice none 0 0] 31)
  have pa : (w2.alloc (.cells #[.int .i64 1, .slice ka_a 1 kc_a, .slice sa_a sl_a sc_a, .slice none 0 0] 31)).heap[w2.heap.size]? = some (.cells #[.int .i64 1, .slice ka_a 1 kc_a, .slice sa_a sl_a sc_a, .slice none 0 0] 31 (0, 0)) := heap_alloc_new _ _
  replace pt := (A.block gt (Array.getElem?_eq_some_iff.1 pt).1).trans pt
  replace Ma := Ma.mono A
  replace bt := below_then bt A
  go_upto_region 3 with (first | (refine wpList_load_row rfl 31 _ rfl gt rfl 31 #[.int .i64 1, .slice none 0 0, .slice none 0 0, .slice none 0 0] (0, 0) _ pt Try.underlying31 rfl (by kernel_rfl) ?_) | fail)
  obtain ⟨v3, hv⟩ : ∃ v, w2.alloc (.cells #[.int .i64 1, .slice ka_a 1 kc_a, .slice sa_a sl_a sc_a, .slice none 0 0] 31) = v := ⟨_, rfl⟩
  obtain ⟨ga, hg⟩ : ∃ g, w2.heap.size = g := ⟨_, rfl⟩
  rw [hv] at pt pa Ma bt ⊢
  rw [hg] at pa ⊢
  clear hv hg A
  have K := (Below.refl v3.heap.size v3).alloc (Nat.le_refl _) (.cells #[.int .u8 97] 5 (1, 2))
  have hk := bytesNew v3 97 (by decide)
  have k1 := kc v3 #[.int .u8 97] 1 1
  go_wp2_with (first | (refine wpList_load_row rfl 31 _ rfl ga rfl 31 #[.int .i64 1, .slice ka_a 1 kc_a, .slice sa_a sl_a sc_a, .slice none 0 0] (0, 0) _ pa Try.underlying31 rfl (by kernel_rfl) ?_) | fail)
  refine (insertF_all (v3.alloc (.cells #[.int .u8 97] 5 (1, 2))) 1 (by decide) (by decide) w.heap.size ka_a 1 kc_a sa_a sl_a sc_a none 0 0 [[97]] s_a rs_a (Ma.mono K) (Nat.le_trans bt.size K.size) (some ⟨v3.heap.size, 0, none⟩) 1 1 [97] hk (by decide) (by decide)).mono ?_
  rintro e w4 ⟨ka_c, n_c, kc_c, sa_c, sl_c, sc_c, ks_c, s_c, rs_c, p_c, F_c, E_c, rfl, Mx, Mo, bx, HT, hout, hst⟩
  replace HT := HT.pre K
  replace hst := hst.pre K
  obtain ⟨rfl, rfl, rfl, rfl⟩ : F_c = false ∧ E_c = 0 ∧ ks_c = [[97]] ∧ p_c = 0 := hout.old (by decide) 0 (by decide) (by decide)
  obtain ⟨b2, e1, e2, e3, e4, e5, e6⟩ := hst rfl
  obtain rfl := e1.symm
  obtain rfl := e2.symm
  obtain rfl := e3.symm
  obtain rfl := e4.symm
  obtain rfl := e5.symm
  obtain rfl := e6.symm
  clear Mx Mo bx HT hout hst K hk k1
  replace pt := (b2.block gt (Array.getElem?_eq_some_iff.1 pt).1).trans pt
  replace pa := (b2.block ga (Array.getElem?_eq_some_iff.1 pa).1).trans pa
  replace Ma := Ma.mono b2
  replace bt := below_then bt b2
  clear b2
  have A := (Below.refl w4.heap.size w4).alloc (Nat.le_refl _) (.cells #[.int .i64 1, .slice ka_a 1 kc_a, .slice sa_a sl_a sc_a, .slice none 0 0] 31)
  have pc : (w4.alloc (.cells #[.int .i64 1, .slice ka_a 1 kc_a, .slice sa_a sl_a sc_a, .slice none 0 0] 31)).heap[w4.heap.size]? = some (.cells #[.int .i64 1, .slice ka_a 1 kc_a, .slice sa_a sl_a sc_a, .slice none 0 0] 31 (0, 0)) := heap_alloc_new _ _
  replace pt := (A.block gt (Array.getElem?_eq_some_iff.1 pt).1).trans pt
  replace pa := (A.block ga (Array.getElem?_eq_some_iff.1 pa).1).trans pa
  replace Ma := Ma.mono A
  replace bt := below_then bt A
  go_upto_region 4 with (first | (refine wpList_load_row rfl 31 _ rfl gt rfl 31 #[.int .i64 1, .slice none 0 0, .slice none 0 0, .slice none 0 0] (0, 0) _ pt Try.underlying31 rfl (by kernel_rfl) ?_) | (refine wpList_load_row rfl 31 _ rfl ga rfl 31 #[.int .i64 1, .slice ka_a 1 kc_a, .slice sa_a sl_a sc_a, .slice none 0 0] (0, 0) _ pa Try.underlying31 rfl (by kernel_rfl) ?_) | fail)
  obtain ⟨v5, hv⟩ : ∃ v, w4.alloc (.cells #[.int .i64 1, .slice ka_a 1 kc_a, .slice sa_a sl_a sc_a, .slice none 0 0] 31) = v := ⟨_, rfl⟩
  obtain ⟨gc, hg⟩ : ∃ g, w4.heap.size = g := ⟨_, rfl⟩
  rw [hv] at pt pa pc Ma bt ⊢
  rw [hg] at pc ⊢
  clear hv hg A
  have K := (Below.refl v5.heap.size v5).alloc (Nat.le_refl _) (.cells #[.int .u8 98] 5 (1, 2))
  have hk := bytesNew v5 98 (by decide)
  have k1 := kc v5 #[.int .u8 98] 1 1
  go_wp2_with (first | (refine wpList_load_row rfl 31 _ rfl ga rfl 31 #[.int .i64 1, .slice ka_a 1 kc_a, .slice sa_a sl_a sc_a, .slice none 0 0] (0, 0) _ pa Try.underlying31 rfl (by kernel_rfl) ?_) | fail)
  refine (insertF_all (v5.alloc (.cells #[.int .u8 98] 5 (1, 2))) 1 (by decide) (by decide) w.heap.size ka_a 1 kc_a sa_a sl_a sc_a none 0 0 [[97]] s_a rs_a (Ma.mono K) (Nat.le_trans bt.size K.size) (some ⟨v5.heap.size, 0, none⟩) 1 1 [98] hk (by decide) (by decide)).mono ?_
  rintro e w6 ⟨ka_d, n_d, kc_d, sa_d, sl_d, sc_d, ks_d, s_d, rs_d, p_d, F_d, E_d, rfl, Mx, Mo, bx, HT, hout, hst⟩
  replace HT := HT.pre K
  replace hst := hst.pre K
  obtain ⟨rfl, rfl, rfl, rfl⟩ : F_d = false ∧ E_d = 7 ∧ ks_d = [[97]] ∧ p_d = 0 := hout.full (by decide) (by decide)
  obtain ⟨b2, e1, e2, e3, e4, e5, e6⟩ := hst rfl
  obtain rfl := e1.symm
  obtain rfl := e2.symm
  obtain rfl := e3.symm
  obtain rfl := e4.symm
  obtain rfl := e5.symm
  obtain rfl := e6.symm
  clear Mx Mo bx HT hout hst K hk k1
  replace pt := (b2.block gt (Array.getElem?_eq_some_iff.1 pt).1).trans pt
  replace pa := (b2.block ga (Array.getElem?_eq_some_iff.1 pa).1).trans pa
  replace pc := (b2.block gc (Array.getElem?_eq_some_iff.1 pc).1).trans pc
  replace Ma := Ma.mono b2
  replace bt := below_then bt b2
  clear b2
  have A := (Below.refl w6.heap.size w6).alloc (Nat.le_refl _) (.cells #[.int .i64 1, .slice ka_a 1 kc_a, .slice sa_a sl_a sc_a, .slice none 0 0] 31)
  have pd : (w6.alloc (.cells #[.int .i64 1, .slice ka_a 1 kc_a, .slice sa_a sl_a sc_a, .slice none 0 0] 31)).heap[w6.heap.size]? = some (.cells #[.int .i64 1, .slice ka_a 1 kc_a, .slice sa_a sl_a sc_a, .slice none 0 0] 31 (0, 0)) := heap_alloc_new _ _
  replace pt := (A.block gt (Array.getElem?_eq_some_iff.1 pt).1).trans pt
  replace pa := (A.block ga (Array.getElem?_eq_some_iff.1 pa).1).trans pa
  replace pc := (A.block gc (Array.getElem?_eq_some_iff.1 pc).1).trans pc
  replace Ma := Ma.mono A
  replace bt := below_then bt A
  go_upto_region 5 with (first | (refine wpList_load_row rfl 31 _ rfl gt rfl 31 #[.int .i64 1, .slice none 0 0, .slice none 0 0, .slice none 0 0] (0, 0) _ pt Try.underlying31 rfl (by kernel_rfl) ?_) | (refine wpList_load_row rfl 31 _ rfl ga rfl 31 #[.int .i64 1, .slice ka_a 1 kc_a, .slice sa_a sl_a sc_a, .slice none 0 0] (0, 0) _ pa Try.underlying31 rfl (by kernel_rfl) ?_) | (refine wpList_load_row rfl 31 _ rfl gc rfl 31 #[.int .i64 1, .slice ka_a 1 kc_a, .slice sa_a sl_a sc_a, .slice none 0 0] (0, 0) _ pc Try.underlying31 rfl (by kernel_rfl) ?_) | fail)
  obtain ⟨v7, hv⟩ : ∃ v, w6.alloc (.cells #[.int .i64 1, .slice ka_a 1 kc_a, .slice sa_a sl_a sc_a, .slice none 0 0] 31) = v := ⟨_, rfl⟩
  obtain ⟨gd, hg⟩ : ∃ g, w6.heap.size = g := ⟨_, rfl⟩
  rw [hv] at pt pa pc pd Ma bt ⊢
  rw [hg] at pd ⊢
  clear hv hg A
  have K := (Below.refl v7.heap.size v7).alloc (Nat.le_refl _) (.cells #[.int .u8 97] 5 (1, 2))
  have hk := bytesNew v7 97 (by decide)
  have k1 := kc v7 #[.int .u8 97] 1 1
  go_wp2_with (first | (refine wpList_load_row rfl 31 _ rfl ga rfl 31 #[.int .i64 1, .slice ka_a 1 kc_a, .slice sa_a sl_a sc_a, .slice none 0 0] (0, 0) _ pa Try.underlying31 rfl (by kernel_rfl) ?_) | fail)
  refine (setF_ok (v7.alloc (.cells #[.int .u8 97] 5 (1, 2))) 1 ka_a 1 kc_a sa_a sl_a sc_a none 0 0 [] (.none_nil _) [[97]] s_a rs_a (Ma.mono K).rd (some ⟨v7.heap.size, 0, none⟩) 1 1 [97] hk 1 (by decide) (by decide) 0 (by decide) (by decide) (by decide) (by decide)).mono ?_
  rintro e w8 ⟨⟨fa, fl, fc, L, rfl, hL, hM1, hM2⟩, b1⟩
  replace b1 := below_then K b1
  clear K hk k1
  replace pt := (b1.block gt (Array.getElem?_eq_some_iff.1 pt).1).trans pt
  replace pa := (b1.block ga (Array.getElem?_eq_some_iff.1 pa).1).trans pa
  replace pc := (b1.block gc (Array.getElem?_eq_some_iff.1 pc).1).trans pc
  replace pd := (b1.block gd (Array.getElem?_eq_some_iff.1 pd).1).trans pd
  replace Ma := Ma.mono b1
  replace bt := below_then bt b1
  clear b1
  have hfl1 : hasB L 0 1 = true := by rw [hM1 0 1 (by decide)]; rfl
  have hfl0 : hasB L 0 0 = false := by rw [hM1 0 0 (by decide)]; rfl
  have H1 := Lib.hid hfl1
  have H0 := Lib.hid hfl0
  clear hM1 hM2 hfl1 hfl0
  have A := (Below.refl w8.heap.size w8).alloc (Nat.le_refl _) (.cells #[.int .i64 1, .slice ka_a 1 kc_a, .slice sa_a sl_a sc_a, .slice fa fl fc] 31)
  have pb : (w8.alloc (.cells #[.int .i64 1, .slice ka_a 1 kc_a, .slice sa_a sl_a sc_a, .slice fa fl fc] 31)).heap[w8.heap.size]? = some (.cells #[.int .i64 1, .slice ka_a 1 kc_a, .slice sa_a sl_a sc_a, .slice fa fl fc] 31 (0, 0)) := heap_alloc_new _ _
  replace pt := (A.block gt (Array.getElem?_eq_some_iff.1 pt).1).trans pt
  replace pa := (A.block ga (Array.getElem?_eq_some_iff.1 pa).1).trans pa
  replace pc := (A.block gc (Array.getElem?_eq_some_iff.1 pc).1).trans pc
  replace pd := (A.block gd (Array.getElem?_eq_some_iff.1 pd).1).trans pd
  replace Ma := Ma.mono A
  replace hL := hL.mono A
  replace bt := below_then bt A
  go_upto_region 6 with (first | (refine wpList_load_row rfl 31 _ rfl gt rfl 31 #[.int .i64 1, .slice none 0 0, .slice none 0 0, .slice none 0 0] (0, 0) _ pt Try.underlying31 rfl (by kernel_rfl) ?_) | (refine wpList_load_row rfl 31 _ rfl ga rfl 31 #[.int .i64 1, .slice ka_a 1 kc_a, .slice sa_a sl_a sc_a, .slice none 0 0] (0, 0) _ pa Try.underlying31 rfl (by kernel_rfl) ?_) | (refine wpList_load_row rfl 31 _ rfl gc rfl 31 #[.int .i64 1, .slice ka_a 1 kc_a, .slice sa_a sl_a sc_a, .slice none 0 0] (0, 0) _ pc Try.underlying31 rfl (by kernel_rfl) ?_) | (refine wpList_load_row rfl 31 _ rfl gd rfl 31 #[.int .i64 1, .slice ka_a 1 kc_a, .slice sa_a sl_a sc_a, .slice none 0 0] (0, 0) _ pd Try.underlying31 rfl (by kernel_rfl) ?_) | fail)
  obtain ⟨v9, hv⟩ : ∃ v, w8.alloc (.cells #[.int .i64 1, .slice ka_a 1 kc_a, .slice sa_a sl_a sc_a, .slice fa fl fc] 31) = v := ⟨_, rfl⟩
  obtain ⟨gb, hg⟩ : ∃ g, w8.heap.size = g := ⟨_, rfl⟩
  rw [hv] at pt pa pc pd pb Ma hL bt ⊢
  rw [hg] at pb ⊢
  clear hv hg A
  have K := (Below.refl v9.heap.size v9).alloc (Nat.le_refl _) (.cells #[.int .u8 97] 5 (1, 2))
  have hk := bytesNew v9 97 (by decide)
  have k1 := kc v9 #[.int .u8 97] 1 1
  go_wp2_with (first | (refine wpList_load_row rfl 31 _ rfl gb rfl 31 #[.int .i64 1, .slice ka_a 1 kc_a, .slice sa_a sl_a sc_a, .slice fa fl fc] (0, 0) _ pb Try.underlying31 rfl (by kernel_rfl) ?_) | fail)
  refine (getF_ok (v9.alloc (.cells #[.int .u8 97] 5 (1, 2))) 1 ka_a 1 kc_a sa_a sl_a sc_a fa fl fc L (hL.mono K) [[97]] s_a rs_a (Ma.mono K).rd (some ⟨v9.heap.size, 0, none⟩) 1 1 [97] hk 1 (by decide) (by decide) 0 (by decide) (by decide) (by decide)).mono ?_
  rintro e w10 ⟨rfl, b1⟩
  rw [H1.out]
  replace b1 := below_then K b1
  clear K hk k1
  replace pt := (b1.block gt (Array.getElem?_eq_some_iff.1 pt).1).trans pt
  replace pa := (b1.block ga (Array.getElem?_eq_some_iff.1 pa).1).trans pa
  replace pc := (b1.block gc (Array.getElem?_eq_some_iff.1 pc).1).trans pc
  replace pd := (b1.block gd (Array.getElem?_eq_some_iff.1 pd).1).trans pd
  replace pb := (b1.block gb (Array.getElem?_eq_some_iff.1 pb).1).trans pb
  replace Ma := Ma.mono b1
  replace hL := hL.mono b1
  replace bt := below_then bt b1
  clear b1
  have K := (Below.refl w10.heap.size w10).alloc (Nat.le_refl _) (.cells #[.int .u8 97] 5 (1, 2))
  have hk := bytesNew w10 97 (by decide)
  have k1 := kc w10 #[.int .u8 97] 1 1
  go_wp2_with (first | (refine wpList_load_row rfl 31 _ rfl gb rfl 31 #[.int .i64 1, .slice ka_a 1 kc_a, .slice sa_a sl_a sc_a, .slice fa fl fc] (0, 0) _ pb Try.underlying31 rfl (by kernel_rfl) ?_) | fail)
  refine (getF_ok (w10.alloc (.cells #[.int .u8 97] 5 (1, 2))) 1 ka_a 1 kc_a sa_a sl_a sc_a fa fl fc L (hL.mono K) [[97]] s_a rs_a (Ma.mono K).rd (some ⟨w10.heap.size, 0, none⟩) 1 1 [97] hk 0 (by decide) (by decide) 0 (by decide) (by decide) (by decide)).mono ?_
  rintro e w11 ⟨rfl, b1⟩
  rw [H0.out]
  replace b1 := below_then K b1
  clear K hk k1
  replace pt := (b1.block gt (Array.getElem?_eq_some_iff.1 pt).1).trans pt
  replace pa := (b1.block ga (Array.getElem?_eq_some_iff.1 pa).1).trans pa
  replace pc := (b1.block gc (Array.getElem?_eq_some_iff.1 pc).1).trans pc
  replace pd := (b1.block gd (Array.getElem?_eq_some_iff.1 pd).1).trans pd
  replace pb := (b1.block gb (Array.getElem?_eq_some_iff.1 pb).1).trans pb
  replace Ma := Ma.mono b1
  replace hL := hL.mono b1
  replace bt := below_then bt b1
  clear b1
  have K := (Below.refl w11.heap.size w11).alloc (Nat.le_refl _) (.cells #[.int .u8 98] 5 (1, 2))
  have hk := bytesNew w11 98 (by decide)
  have k1 := kc w11 #[.int .u8 98] 1 1
  go_wp2_with (first | (refine wpList_load_row rfl 31 _ rfl gb rfl 31 #[.int .i64 1, .slice ka_a 1 kc_a, .slice sa_a sl_a sc_a, .slice fa fl fc] (0, 0) _ pb Try.underlying31 rfl (by kernel_rfl) ?_) | fail)
  refine (getF_none (w11.alloc (.cells #[.int .u8 98] 5 (1, 2))) 1 ka_a 1 kc_a sa_a sl_a sc_a fa fl fc (some ⟨w11.heap.size, 0, none⟩) 1 1 [[97]] s_a rs_a (Ma.mono K).rd [98] hk 0 (by decide) (by decide)).mono ?_
  rintro e w12 ⟨rfl, b1⟩
  replace b1 := below_then K b1
  clear K hk k1
  replace pt := (b1.block gt (Array.getElem?_eq_some_iff.1 pt).1).trans pt
  replace pa := (b1.block ga (Array.getElem?_eq_some_iff.1 pa).1).trans pa
  replace pc := (b1.block gc (Array.getElem?_eq_some_iff.1 pc).1).trans pc
  replace pd := (b1.block gd (Array.getElem?_eq_some_iff.1 pd).1).trans pd
  replace pb := (b1.block gb (Array.getElem?_eq_some_iff.1 pb).1).trans pb
  replace Ma := Ma.mono b1
  replace hL := hL.mono b1
  replace bt := below_then bt b1
  clear b1
  have K := (Below.refl w12.heap.size w12).alloc (Nat.le_refl _) (.cells #[.int .u8 97] 5 (1, 2))
  have hk := bytesNew w12 97 (by decide)
  have k1 := kc w12 #[.int .u8 97] 1 1
  go_wp2_with (first | (refine wpList_load_row rfl 31 _ rfl gb rfl 31 #[.int .i64 1, .slice ka_a 1 kc_a, .slice sa_a sl_a sc_a, .slice fa fl fc] (0, 0) _ pb Try.underlying31 rfl (by kernel_rfl) ?_) | fail)
  refine (getF_bad (w12.alloc (.cells #[.int .u8 97] 5 (1, 2))) 1 ka_a 1 kc_a sa_a sl_a sc_a fa fl fc (some ⟨w12.heap.size, 0, none⟩) 1 1 2 (by decide)).mono ?_
  rintro e w13 ⟨rfl, b1⟩
  replace b1 := below_then K b1
  clear K hk k1
  replace pt := (b1.block gt (Array.getElem?_eq_some_iff.1 pt).1).trans pt
  replace pa := (b1.block ga (Array.getElem?_eq_some_iff.1 pa).1).trans pa
  replace pc := (b1.block gc (Array.getElem?_eq_some_iff.1 pc).1).trans pc
  replace pd := (b1.block gd (Array.getElem?_eq_some_iff.1 pd).1).trans pd
  replace pb := (b1.block gb (Array.getElem?_eq_some_iff.1 pb).1).trans pb
  replace Ma := Ma.mono b1
  replace hL := hL.mono b1
  replace bt := below_then bt b1
  clear b1
  have qb0 := cell_of_row _ _ 0 _ _ _ pb
  have qt0 := cell_of_row _ _ 0 _ _ _ pt
  have qb1 := cell_of_row _ _ 1 _ _ _ pb
  have qt1 := cell_of_row _ _ 1 _ _ _ pt
  have qb2 := cell_of_row _ _ 2 _ _ _ pb
  have qt2 := cell_of_row _ _ 2 _ _ _ pt
  have qb3 := cell_of_row _ _ 3 _ _ _ pb
  have qt3 := cell_of_row _ _ 3 _ _ _ pt
  simp only [List.getElem?_toArray, List.getElem?_cons_zero, List.getElem?_cons_succ] at qb0 qb1 qb2 qb3 qt0 qt1 qt2 qt3
  go_wp2_with fail
  refine (manyF_any _ 1 ka_a 1 kc_a sa_a sl_a sc_a _ (by decide)).mono ?_
  rintro e w14 ⟨rfl, b1⟩
  replace pt := (b1.block gt (Array.getElem?_eq_some_iff.1 pt).1).trans pt
  replace pa := (b1.block ga (Array.getElem?_eq_some_iff.1 pa).1).trans pa
  replace pc := (b1.block gc (Array.getElem?_eq_some_iff.1 pc).1).trans pc
  replace pd := (b1.block gd (Array.getElem?_eq_some_iff.1 pd).1).trans pd
  replace pb := (b1.block gb (Array.getElem?_eq_some_iff.1 pb).1).trans pb
  replace Ma := Ma.mono b1
  replace hL := hL.mono b1
  replace bt := below_then bt b1
  clear b1
  clear qb0 qb1 qb2 qb3 qt0 qt1 qt2 qt3
  have qb0 := cell_of_row _ _ 0 _ _ _ pb
  have qt0 := cell_of_row _ _ 0 _ _ _ pt
  have qb1 := cell_of_row _ _ 1 _ _ _ pb
  have qt1 := cell_of_row _ _ 1 _ _ _ pt
  have qb2 := cell_of_row _ _ 2 _ _ _ pb
  have qt2 := cell_of_row _ _ 2 _ _ _ pt
  have qb3 := cell_of_row _ _ 3 _ _ _ pb
  have qt3 := cell_of_row _ _ 3 _ _ _ pt
  simp only [List.getElem?_toArray, List.getElem?_cons_zero, List.getElem?_cons_succ] at qb0 qb1 qb2 qb3 qt0 qt1 qt2 qt3
  have K := (Below.refl w14.heap.size w14).alloc (Nat.le_refl _) (.cells #[.int .u8 97] 5 (1, 2))
  have hk := bytesNew w14 97 (by decide)
  have k1 := kc w14 #[.int .u8 97] 1 1
  go_wp2_with fail
  refine (memberF_any (w14.alloc (.cells #[.int .u8 97] 5 (1, 2))) 1 ka_a 1 kc_a sa_a sl_a sc_a _ [[97]] s_a rs_a (Ma.mono K).rd (some ⟨w14.heap.size, 0, none⟩) 1 1 [97] hk).mono ?_
  rintro e w15 ⟨rfl, b1⟩
  rw [decide_eq_true (show [97] ∈ [[97]] by decide)]
  replace b1 := below_then K b1
  clear K hk k1
  replace pt := (b1.block gt (Array.getElem?_eq_some_iff.1 pt).1).trans pt
  replace pa := (b1.block ga (Array.getElem?_eq_some_iff.1 pa).1).trans pa
  replace pc := (b1.block gc (Array.getElem?_eq_some_iff.1 pc).1).trans pc
  replace pd := (b1.block gd (Array.getElem?_eq_some_iff.1 pd).1).trans pd
  replace pb := (b1.block gb (Array.getElem?_eq_some_iff.1 pb).1).trans pb
  replace Ma := Ma.mono b1
  replace hL := hL.mono b1
  replace bt := below_then bt b1
  clear b1
  clear qb0 qb1 qb2 qb3 qt0 qt1 qt2 qt3
  have qb0 := cell_of_row _ _ 0 _ _ _ pb
  have qt0 := cell_of_row _ _ 0 _ _ _ pt
  have qb1 := cell_of_row _ _ 1 _ _ _ pb
  have qt1 := cell_of_row _ _ 1 _ _ _ pt
  have qb2 := cell_of_row _ _ 2 _ _ _ pb
  have qt2 := cell_of_row _ _ 2 _ _ _ pt
  have qb3 := cell_of_row _ _ 3 _ _ _ pb
  have qt3 := cell_of_row _ _ 3 _ _ _ pt
  simp only [List.getElem?_toArray, List.getElem?_cons_zero, List.getElem?_cons_succ] at qb0 qb1 qb2 qb3 qt0 qt1 qt2 qt3
  have K := (Below.refl w15.heap.size w15).alloc (Nat.le_refl _) (.cells #[.int .u8 97] 5 (1, 2))
  have hk := bytesNew w15 97 (by decide)
  have k1 := kc w15 #[.int .u8 97] 1 1
  go_wp2_with fail
  refine (memberF_any (w15.alloc (.cells #[.int .u8 97] 5 (1, 2))) 1 none 0 0 none 0 0 _ [] [] [] (TabM.empty _ w.heap.size).rd (some ⟨w15.heap.size, 0, none⟩) 1 1 [97] hk).mono ?_
  rintro e w16 ⟨rfl, b1⟩
  rw [decide_eq_false (show [97] ∉ [] by decide)]
  replace b1 := below_then K b1
  clear K hk k1
  replace pt := (b1.block gt (Array.getElem?_eq_some_iff.1 pt).1).trans pt
  replace pa := (b1.block ga (Array.getElem?_eq_some_iff.1 pa).1).trans pa
  replace pc := (b1.block gc (Array.getElem?_eq_some_iff.1 pc).1).trans pc
  replace pd := (b1.block gd (Array.getElem?_eq_some_iff.1 pd).1).trans pd
  replace pb := (b1.block gb (Array.getElem?_eq_some_iff.1 pb).1).trans pb
  replace Ma := Ma.mono b1
  replace hL := hL.mono b1
  replace bt := below_then bt b1
  clear b1
  clear qb0 qb1 qb2 qb3 qt0 qt1 qt2 qt3
  go_wp2_with fail
  go_ret
  exact ⟨rfl, bt⟩
end Go.Proofs.Ytbbdeefnooaacaa
