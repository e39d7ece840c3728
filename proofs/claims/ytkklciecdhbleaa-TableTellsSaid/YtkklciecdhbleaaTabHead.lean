/- The head of all statements of layer 4: the document's example holds (by gen04s.py). -/
import Derived.Test.YtkklciecdhbleaaTabJ
import Derived.Lib.SlBytesConst
namespace Go.Proofs.Ytkklciecdhbleaa
open Go.RowKit
set_option linter.unusedVariables false

theorem bytesNew (w : World) (c : Nat) (hc : c < 256) : BytesAt (w.alloc (.cells #[.int .u8 (c : Int)] 5 (1, 2))) (some ⟨w.heap.size, 0, none⟩) 1 1 [c] := by
  refine ⟨rfl, by omega, by simpa using hc, nofun, .inr ⟨_, 0, rfl, by simp, fun i hi => ?_⟩⟩
  obtain rfl : i = 0 := by omega
  rw [World.cell?_alloc_mark]; rfl
theorem Grown.row {w w' : World} {B : Nat} {ka : Option Addr} {n kc : Nat} {sa : Option Addr} {sl sc kb kc' sb sl' sc' : Nat} {ks : List (List Nat)} {key : List Nat} (G : Grown w w' B ka n kc sa sl sc kb kc' sb sl' sc' ks key) {s : List Int} {rs : List (Nat × Nat)} (h : TabM w B ka n kc sa sl sc ks s rs)
    {g : Nat} {vs : Array Value} {t : TypeId} {fr : Nat × Nat} (hg : w.heap[g]? = some (.cells vs t fr)) (h1 : t ≠ 23) (h2 : t ≠ 3) : w'.heap[g]? = some (.cells vs t fr) := by
  have hlt := (Array.getElem?_eq_some_iff.1 hg).1
  refine (G.other g hlt ?_ ?_).trans hg
  · rintro rfl
    rcases G.place with ⟨e1, _⟩ | ⟨h3, _⟩
    · rcases h.mem with ⟨_, e, _⟩ | ⟨kb0, sb0, kcur, scur, e3, e4, r⟩
      · rw [e1] at e
        cases e
      · rw [e1] at e3
        cases e3
        rw [r.rowk] at hg
        simp at hg
        exact h1 hg.2.1.symm
    · omega
  · rintro rfl
    rcases G.place with ⟨_, e1, _⟩ | ⟨_, h3⟩
    · rcases h.mem with ⟨_, _, _, e, _⟩ | ⟨kb0, sb0, kcur, scur, e3, e4, r⟩
      · rw [e1] at e
        cases e
      · rw [e1] at e4
        cases e4
        rw [r.rows] at hg
        simp at hg
        exact h2 hg.2.1.symm
    · omega
theorem Grown.bel {w w' : World} {B : Nat} {ka : Option Addr} {n kc : Nat} {sa : Option Addr} {sl sc kb kc' sb sl' sc' : Nat} {ks : List (List Nat)} {key : List Nat} (G : Grown w w' B ka n kc sa sl sc kb kc' sb sl' sc' ks key) (hB : B ≤ w.heap.size) : Below B w w' := by
  obtain ⟨s', rs', T⟩ := G.tab
  exact G.below B hB (T.lt.1 _ rfl).2 (T.lt.2 _ rfl).2
theorem new_ok (w : World) (most : Int) (h : 0 ≤ most ∧ most ≤ 1048576) : Calls Try.prog 10 #[.int .i64 most] w fun e w' => e = .returned (.tuple #[.agg #[.int .i64 most, .slice none 0 0, .slice none 0 0], .int .i64 0]) ∧ Below w.heap.size w w' := by
  have := new_any w most
  rwa [if_pos h] at this
theorem new_bad (w : World) (most : Int) (h : ¬ (0 ≤ most ∧ most ≤ 1048576)) : Calls Try.prog 10 #[.int .i64 most] w fun e w' => e = .returned (.tuple #[.agg #[.int .i64 0, .slice none 0 0, .slice none 0 0], .int .i64 1]) ∧ Below w.heap.size w w' := by
  have := new_any w most
  rwa [if_neg h] at this
set_option maxRecDepth 100000 in
set_option maxHeartbeats 8000000 in
theorem shown_any (w : World) : Calls Try.prog 8 #[] w fun e w' => e = .returned (.bool true) ∧ Below w.heap.size w w' := by
  have kc := fun (w : World) (C : Array Value) (n c : Nat) => Lib.run_convert_bytes_const (P := Try.prog) w 23 5 C n c Try.underlying23 Try.underlying5
  go_enter Try.func8, Try.ntmps8
  go_wp2_with fail
  refine (new_ok _ 2 (by decide)).mono ?_
  rintro e w1 ⟨rfl, bt⟩
  have Mt := TabM.empty w1 w.heap.size
  have A := (Below.refl w1.heap.size w1).alloc (Nat.le_refl _) (.cells #[.int .i64 2, .slice none 0 0, .slice none 0 0] 30)
  have pt : (w1.alloc (.cells #[.int .i64 2, .slice none 0 0, .slice none 0 0] 30)).heap[w1.heap.size]? = some (.cells #[.int .i64 2, .slice none 0 0, .slice none 0 0] 30 (0, 0)) := heap_alloc_new _ _
  replace Mt := Mt.mono A
  replace bt := below_then bt A
  go_upto_region 2 with (first | (refine wpList_load_row rfl 30 _ rfl gt rfl 30 #[.int .i64 2, .slice none 0 0, .slice none 0 0] (0, 0) _ pt Try.underlying30 rfl (by kernel_rfl) ?_) | fail)
  obtain ⟨v1, hv⟩ : ∃ v, w1.alloc (.cells #[.int .i64 2, .slice none 0 0, .slice none 0 0] 30) = v := ⟨_, rfl⟩
  obtain ⟨gt, hg⟩ : ∃ g, w1.heap.size = g := ⟨_, rfl⟩
  rw [hv] at pt Mt bt ⊢
  rw [hg] at pt ⊢
  clear hv hg A
  have K := (Below.refl v1.heap.size v1).alloc (Nat.le_refl _) (.cells #[.int .u8 97] 5 (1, 2))
  have hk := bytesNew v1 97 (by decide)
  have k1 := kc v1 #[.int .u8 97] 1 1
  have Mt' := Mt.mono K
  have pt' := (K.block _ (Array.getElem?_eq_some_iff.1 pt).1).trans pt
  have bt' := below_then bt K
  go_wp2_with (first | (refine wpList_load_row rfl 30 _ rfl gt rfl 30 #[.int .i64 2, .slice none 0 0, .slice none 0 0] (0, 0) _ pt Try.underlying30 rfl (by kernel_rfl) ?_) | fail)
  refine (insert_new (v1.alloc (.cells #[.int .u8 97] 5 (1, 2))) 2 (by decide) (by decide) w.heap.size none 0 0 none 0 0 [] [] [] Mt' bt'.size (some ⟨v1.heap.size, 0, none⟩) 1 1 [97] hk (by decide) (by decide) (by decide)).mono ?_
  rintro e w13 ⟨ka, ac, sa, al, ad, rfl, G⟩
  replace pt := G.row Mt' pt' (by decide) (by decide)
  replace bt := bt'.trans (G.bel bt'.size)
  obtain ⟨s1, rs1, MM⟩ := G.tab
  clear pt' Mt' hk k1 K bt'
  have Ma := MM
  clear G MM Mt
  have A := (Below.refl w13.heap.size w13).alloc (Nat.le_refl _) (.cells #[.int .i64 2, .slice (some ⟨ka, 0, none⟩) (0 + 1) ac, .slice (some ⟨sa, 0, none⟩) al ad] 30)
  have pa : (w13.alloc (.cells #[.int .i64 2, .slice (some ⟨ka, 0, none⟩) (0 + 1) ac, .slice (some ⟨sa, 0, none⟩) al ad] 30)).heap[w13.heap.size]? = some (.cells #[.int .i64 2, .slice (some ⟨ka, 0, none⟩) (0 + 1) ac, .slice (some ⟨sa, 0, none⟩) al ad] 30 (0, 0)) := heap_alloc_new _ _
  replace pt := (A.block _ (Array.getElem?_eq_some_iff.1 pt).1).trans pt
  replace Ma := Ma.mono A
  replace bt := below_then bt A
  go_upto_region 3 with (first | (refine wpList_load_row rfl 30 _ rfl gt rfl 30 #[.int .i64 2, .slice none 0 0, .slice none 0 0] (0, 0) _ pt Try.underlying30 rfl (by kernel_rfl) ?_) | (refine wpList_load_row rfl 30 _ rfl ga rfl 30 #[.int .i64 2, .slice (some ⟨ka, 0, none⟩) (0 + 1) ac, .slice (some ⟨sa, 0, none⟩) al ad] (0, 0) _ pa Try.underlying30 rfl (by kernel_rfl) ?_) | fail)
  obtain ⟨v4, hv⟩ : ∃ v, w13.alloc (.cells #[.int .i64 2, .slice (some ⟨ka, 0, none⟩) (0 + 1) ac, .slice (some ⟨sa, 0, none⟩) al ad] 30) = v := ⟨_, rfl⟩
  obtain ⟨ga, hg⟩ : ∃ g, w13.heap.size = g := ⟨_, rfl⟩
  rw [hv] at pt pa Ma bt ⊢
  rw [hg] at pa ⊢
  clear hv hg A
  have K := (Below.refl v4.heap.size v4).alloc (Nat.le_refl _) (.cells #[.int .u8 98] 5 (1, 2))
  have hk := bytesNew v4 98 (by decide)
  have k1 := kc v4 #[.int .u8 98] 1 1
  have Ma' := Ma.mono K
  have pt' := (K.block _ (Array.getElem?_eq_some_iff.1 pt).1).trans pt
  have pa' := (K.block _ (Array.getElem?_eq_some_iff.1 pa).1).trans pa
  have bt' := below_then bt K
  go_wp2_with (first | (refine wpList_load_row rfl 30 _ rfl gt rfl 30 #[.int .i64 2, .slice none 0 0, .slice none 0 0] (0, 0) _ pt Try.underlying30 rfl (by kernel_rfl) ?_) | (refine wpList_load_row rfl 30 _ rfl ga rfl 30 #[.int .i64 2, .slice (some ⟨ka, 0, none⟩) (0 + 1) ac, .slice (some ⟨sa, 0, none⟩) al ad] (0, 0) _ pa Try.underlying30 rfl (by kernel_rfl) ?_) | fail)
  refine (insert_new (v4.alloc (.cells #[.int .u8 98] 5 (1, 2))) 2 (by decide) (by decide) w.heap.size (some ⟨ka, 0, none⟩) (0 + 1) ac (some ⟨sa, 0, none⟩) al ad ([] ++ [[97]]) s1 rs1 Ma' bt'.size (some ⟨v4.heap.size, 0, none⟩) 1 1 [98] hk (by decide) (by decide) (by decide)).mono ?_
  rintro e w16 ⟨kb, bc, sb, bl, bd, rfl, G⟩
  replace pt := G.row Ma' pt' (by decide) (by decide)
  replace pa := G.row Ma' pa' (by decide) (by decide)
  replace bt := bt'.trans (G.bel bt'.size)
  obtain ⟨s2, rs2, MM⟩ := G.tab
  replace Ma := G.old Ma'
  clear pt' pa' hk k1 K bt'
  clear Ma'
  have Mb := MM
  clear G MM
  have A := (Below.refl w16.heap.size w16).alloc (Nat.le_refl _) (.cells #[.int .i64 2, .slice (some ⟨kb, 0, none⟩) (0 + 1 + 1) bc, .slice (some ⟨sb, 0, none⟩) bl bd] 30)
  have pb : (w16.alloc (.cells #[.int .i64 2, .slice (some ⟨kb, 0, none⟩) (0 + 1 + 1) bc, .slice (some ⟨sb, 0, none⟩) bl bd] 30)).heap[w16.heap.size]? = some (.cells #[.int .i64 2, .slice (some ⟨kb, 0, none⟩) (0 + 1 + 1) bc, .slice (some ⟨sb, 0, none⟩) bl bd] 30 (0, 0)) := heap_alloc_new _ _
  replace pt := (A.block _ (Array.getElem?_eq_some_iff.1 pt).1).trans pt
  replace pa := (A.block _ (Array.getElem?_eq_some_iff.1 pa).1).trans pa
  replace Ma := Ma.mono A
  replace Mb := Mb.mono A
  replace bt := below_then bt A
  go_upto_region 4 with (first | (refine wpList_load_row rfl 30 _ rfl gt rfl 30 #[.int .i64 2, .slice none 0 0, .slice none 0 0] (0, 0) _ pt Try.underlying30 rfl (by kernel_rfl) ?_) | (refine wpList_load_row rfl 30 _ rfl ga rfl 30 #[.int .i64 2, .slice (some ⟨ka, 0, none⟩) (0 + 1) ac, .slice (some ⟨sa, 0, none⟩) al ad] (0, 0) _ pa Try.underlying30 rfl (by kernel_rfl) ?_) | (refine wpList_load_row rfl 30 _ rfl gb rfl 30 #[.int .i64 2, .slice (some ⟨kb, 0, none⟩) (0 + 1 + 1) bc, .slice (some ⟨sb, 0, none⟩) bl bd] (0, 0) _ pb Try.underlying30 rfl (by kernel_rfl) ?_) | fail)
  obtain ⟨v7, hv⟩ : ∃ v, w16.alloc (.cells #[.int .i64 2, .slice (some ⟨kb, 0, none⟩) (0 + 1 + 1) bc, .slice (some ⟨sb, 0, none⟩) bl bd] 30) = v := ⟨_, rfl⟩
  obtain ⟨gb, hg⟩ : ∃ g, w16.heap.size = g := ⟨_, rfl⟩
  rw [hv] at pt pa pb Ma Mb bt ⊢
  rw [hg] at pb ⊢
  clear hv hg A
  have K := (Below.refl v7.heap.size v7).alloc (Nat.le_refl _) (.cells #[.int .u8 97] 5 (1, 2))
  have hk := bytesNew v7 97 (by decide)
  have k1 := kc v7 #[.int .u8 97] 1 1
  have Ma' := Ma.mono K
  have Mb' := Mb.mono K
  have pt' := (K.block _ (Array.getElem?_eq_some_iff.1 pt).1).trans pt
  have pa' := (K.block _ (Array.getElem?_eq_some_iff.1 pa).1).trans pa
  have pb' := (K.block _ (Array.getElem?_eq_some_iff.1 pb).1).trans pb
  have bt' := below_then bt K
  go_wp2_with (first | (refine wpList_load_row rfl 30 _ rfl gt rfl 30 #[.int .i64 2, .slice none 0 0, .slice none 0 0] (0, 0) _ pt Try.underlying30 rfl (by kernel_rfl) ?_) | (refine wpList_load_row rfl 30 _ rfl ga rfl 30 #[.int .i64 2, .slice (some ⟨ka, 0, none⟩) (0 + 1) ac, .slice (some ⟨sa, 0, none⟩) al ad] (0, 0) _ pa Try.underlying30 rfl (by kernel_rfl) ?_) | (refine wpList_load_row rfl 30 _ rfl gb rfl 30 #[.int .i64 2, .slice (some ⟨kb, 0, none⟩) (0 + 1 + 1) bc, .slice (some ⟨sb, 0, none⟩) bl bd] (0, 0) _ pb Try.underlying30 rfl (by kernel_rfl) ?_) | fail)
  refine (insert_old (v7.alloc (.cells #[.int .u8 97] 5 (1, 2))) 2 (by decide) (by decide) w.heap.size (some ⟨kb, 0, none⟩) (0 + 1 + 1) bc (some ⟨sb, 0, none⟩) bl bd ([] ++ [[97]] ++ [[98]]) s2 rs2 Mb' bt'.size (some ⟨v7.heap.size, 0, none⟩) 1 1 [97] hk (by decide) (by decide) 0 (by decide) (by decide)).mono ?_
  rintro e w19 ⟨rfl, B1⟩
  replace pt := (B1.block _ (Array.getElem?_eq_some_iff.1 pt').1).trans pt'
  replace pa := (B1.block _ (Array.getElem?_eq_some_iff.1 pa').1).trans pa'
  replace pb := (B1.block _ (Array.getElem?_eq_some_iff.1 pb').1).trans pb'
  replace Ma := Ma'.mono B1
  replace Mb := Mb'.mono B1
  replace bt := below_then bt' B1
  clear pt' pa' pb' Ma' Mb' hk k1 K bt'
  clear B1
  have A := (Below.refl w19.heap.size w19).alloc (Nat.le_refl _) (.cells #[.int .i64 2, .slice (some ⟨kb, 0, none⟩) (0 + 1 + 1) bc, .slice (some ⟨sb, 0, none⟩) bl bd] 30)
  have pc : (w19.alloc (.cells #[.int .i64 2, .slice (some ⟨kb, 0, none⟩) (0 + 1 + 1) bc, .slice (some ⟨sb, 0, none⟩) bl bd] 30)).heap[w19.heap.size]? = some (.cells #[.int .i64 2, .slice (some ⟨kb, 0, none⟩) (0 + 1 + 1) bc, .slice (some ⟨sb, 0, none⟩) bl bd] 30 (0, 0)) := heap_alloc_new _ _
  replace pt := (A.block _ (Array.getElem?_eq_some_iff.1 pt).1).trans pt
  replace pa := (A.block _ (Array.getElem?_eq_some_iff.1 pa).1).trans pa
  replace pb := (A.block _ (Array.getElem?_eq_some_iff.1 pb).1).trans pb
  replace Ma := Ma.mono A
  replace Mb := Mb.mono A
  replace bt := below_then bt A
  go_upto_region 5 with (first | (refine wpList_load_row rfl 30 _ rfl gt rfl 30 #[.int .i64 2, .slice none 0 0, .slice none 0 0] (0, 0) _ pt Try.underlying30 rfl (by kernel_rfl) ?_) | (refine wpList_load_row rfl 30 _ rfl ga rfl 30 #[.int .i64 2, .slice (some ⟨ka, 0, none⟩) (0 + 1) ac, .slice (some ⟨sa, 0, none⟩) al ad] (0, 0) _ pa Try.underlying30 rfl (by kernel_rfl) ?_) | (refine wpList_load_row rfl 30 _ rfl gb rfl 30 #[.int .i64 2, .slice (some ⟨kb, 0, none⟩) (0 + 1 + 1) bc, .slice (some ⟨sb, 0, none⟩) bl bd] (0, 0) _ pb Try.underlying30 rfl (by kernel_rfl) ?_) | (refine wpList_load_row rfl 30 _ rfl gc rfl 30 #[.int .i64 2, .slice (some ⟨kb, 0, none⟩) (0 + 1 + 1) bc, .slice (some ⟨sb, 0, none⟩) bl bd] (0, 0) _ pc Try.underlying30 rfl (by kernel_rfl) ?_) | fail)
  obtain ⟨v10, hv⟩ : ∃ v, w19.alloc (.cells #[.int .i64 2, .slice (some ⟨kb, 0, none⟩) (0 + 1 + 1) bc, .slice (some ⟨sb, 0, none⟩) bl bd] 30) = v := ⟨_, rfl⟩
  obtain ⟨gc, hg⟩ : ∃ g, w19.heap.size = g := ⟨_, rfl⟩
  rw [hv] at pt pa pb pc Ma Mb bt ⊢
  rw [hg] at pc ⊢
  clear hv hg A
  have K := (Below.refl v10.heap.size v10).alloc (Nat.le_refl _) (.cells #[.int .u8 99] 5 (1, 2))
  have hk := bytesNew v10 99 (by decide)
  have k1 := kc v10 #[.int .u8 99] 1 1
  have Ma' := Ma.mono K
  have Mb' := Mb.mono K
  have pt' := (K.block _ (Array.getElem?_eq_some_iff.1 pt).1).trans pt
  have pa' := (K.block _ (Array.getElem?_eq_some_iff.1 pa).1).trans pa
  have pb' := (K.block _ (Array.getElem?_eq_some_iff.1 pb).1).trans pb
  have pc' := (K.block _ (Array.getElem?_eq_some_iff.1 pc).1).trans pc
  have bt' := below_then bt K
  go_wp2_with (first | (refine wpList_load_row rfl 30 _ rfl gt rfl 30 #[.int .i64 2, .slice none 0 0, .slice none 0 0] (0, 0) _ pt Try.underlying30 rfl (by kernel_rfl) ?_) | (refine wpList_load_row rfl 30 _ rfl ga rfl 30 #[.int .i64 2, .slice (some ⟨ka, 0, none⟩) (0 + 1) ac, .slice (some ⟨sa, 0, none⟩) al ad] (0, 0) _ pa Try.underlying30 rfl (by kernel_rfl) ?_) | (refine wpList_load_row rfl 30 _ rfl gb rfl 30 #[.int .i64 2, .slice (some ⟨kb, 0, none⟩) (0 + 1 + 1) bc, .slice (some ⟨sb, 0, none⟩) bl bd] (0, 0) _ pb Try.underlying30 rfl (by kernel_rfl) ?_) | (refine wpList_load_row rfl 30 _ rfl gc rfl 30 #[.int .i64 2, .slice (some ⟨kb, 0, none⟩) (0 + 1 + 1) bc, .slice (some ⟨sb, 0, none⟩) bl bd] (0, 0) _ pc Try.underlying30 rfl (by kernel_rfl) ?_) | fail)
  refine (insert_full (v10.alloc (.cells #[.int .u8 99] 5 (1, 2))) 2 (by decide) (by decide) w.heap.size (some ⟨kb, 0, none⟩) (0 + 1 + 1) bc (some ⟨sb, 0, none⟩) bl bd ([] ++ [[97]] ++ [[98]]) s2 rs2 Mb' bt'.size (some ⟨v10.heap.size, 0, none⟩) 1 1 [99] hk (by decide) (by decide) (by decide)).mono ?_
  rintro e w22 ⟨rfl, B1⟩
  replace pt := (B1.block _ (Array.getElem?_eq_some_iff.1 pt').1).trans pt'
  replace pa := (B1.block _ (Array.getElem?_eq_some_iff.1 pa').1).trans pa'
  replace pb := (B1.block _ (Array.getElem?_eq_some_iff.1 pb').1).trans pb'
  replace pc := (B1.block _ (Array.getElem?_eq_some_iff.1 pc').1).trans pc'
  replace Ma := Ma'.mono B1
  replace Mb := Mb'.mono B1
  replace bt := below_then bt' B1
  clear pt' pa' pb' pc' Ma' Mb' hk k1 K bt'
  clear B1
  have A := (Below.refl w22.heap.size w22).alloc (Nat.le_refl _) (.cells #[.int .i64 2, .slice (some ⟨kb, 0, none⟩) (0 + 1 + 1) bc, .slice (some ⟨sb, 0, none⟩) bl bd] 30)
  have pd : (w22.alloc (.cells #[.int .i64 2, .slice (some ⟨kb, 0, none⟩) (0 + 1 + 1) bc, .slice (some ⟨sb, 0, none⟩) bl bd] 30)).heap[w22.heap.size]? = some (.cells #[.int .i64 2, .slice (some ⟨kb, 0, none⟩) (0 + 1 + 1) bc, .slice (some ⟨sb, 0, none⟩) bl bd] 30 (0, 0)) := heap_alloc_new _ _
  replace pt := (A.block _ (Array.getElem?_eq_some_iff.1 pt).1).trans pt
  replace pa := (A.block _ (Array.getElem?_eq_some_iff.1 pa).1).trans pa
  replace pb := (A.block _ (Array.getElem?_eq_some_iff.1 pb).1).trans pb
  replace pc := (A.block _ (Array.getElem?_eq_some_iff.1 pc).1).trans pc
  replace Ma := Ma.mono A
  replace Mb := Mb.mono A
  replace bt := below_then bt A
  go_upto_region 6 with (first | (refine wpList_load_row rfl 30 _ rfl gt rfl 30 #[.int .i64 2, .slice none 0 0, .slice none 0 0] (0, 0) _ pt Try.underlying30 rfl (by kernel_rfl) ?_) | (refine wpList_load_row rfl 30 _ rfl ga rfl 30 #[.int .i64 2, .slice (some ⟨ka, 0, none⟩) (0 + 1) ac, .slice (some ⟨sa, 0, none⟩) al ad] (0, 0) _ pa Try.underlying30 rfl (by kernel_rfl) ?_) | (refine wpList_load_row rfl 30 _ rfl gb rfl 30 #[.int .i64 2, .slice (some ⟨kb, 0, none⟩) (0 + 1 + 1) bc, .slice (some ⟨sb, 0, none⟩) bl bd] (0, 0) _ pb Try.underlying30 rfl (by kernel_rfl) ?_) | (refine wpList_load_row rfl 30 _ rfl gc rfl 30 #[.int .i64 2, .slice (some ⟨kb, 0, none⟩) (0 + 1 + 1) bc, .slice (some ⟨sb, 0, none⟩) bl bd] (0, 0) _ pc Try.underlying30 rfl (by kernel_rfl) ?_) | (refine wpList_load_row rfl 30 _ rfl gd rfl 30 #[.int .i64 2, .slice (some ⟨kb, 0, none⟩) (0 + 1 + 1) bc, .slice (some ⟨sb, 0, none⟩) bl bd] (0, 0) _ pd Try.underlying30 rfl (by kernel_rfl) ?_) | fail)
  obtain ⟨v13, hv⟩ : ∃ v, w22.alloc (.cells #[.int .i64 2, .slice (some ⟨kb, 0, none⟩) (0 + 1 + 1) bc, .slice (some ⟨sb, 0, none⟩) bl bd] 30) = v := ⟨_, rfl⟩
  obtain ⟨gd, hg⟩ : ∃ g, w22.heap.size = g := ⟨_, rfl⟩
  rw [hv] at pt pa pb pc pd Ma Mb bt ⊢
  rw [hg] at pd ⊢
  clear hv hg A
  have K := (Below.refl v13.heap.size v13).alloc (Nat.le_refl _) (.cells #[.int .u8 98] 5 (1, 2))
  have hk := bytesNew v13 98 (by decide)
  have k1 := kc v13 #[.int .u8 98] 1 1
  have Ma' := Ma.mono K
  have Mb' := Mb.mono K
  have pt' := (K.block _ (Array.getElem?_eq_some_iff.1 pt).1).trans pt
  have pa' := (K.block _ (Array.getElem?_eq_some_iff.1 pa).1).trans pa
  have pb' := (K.block _ (Array.getElem?_eq_some_iff.1 pb).1).trans pb
  have pc' := (K.block _ (Array.getElem?_eq_some_iff.1 pc).1).trans pc
  have pd' := (K.block _ (Array.getElem?_eq_some_iff.1 pd).1).trans pd
  have bt' := below_then bt K
  go_wp2_with (first | (refine wpList_load_row rfl 30 _ rfl gt rfl 30 #[.int .i64 2, .slice none 0 0, .slice none 0 0] (0, 0) _ pt Try.underlying30 rfl (by kernel_rfl) ?_) | (refine wpList_load_row rfl 30 _ rfl ga rfl 30 #[.int .i64 2, .slice (some ⟨ka, 0, none⟩) (0 + 1) ac, .slice (some ⟨sa, 0, none⟩) al ad] (0, 0) _ pa Try.underlying30 rfl (by kernel_rfl) ?_) | (refine wpList_load_row rfl 30 _ rfl gb rfl 30 #[.int .i64 2, .slice (some ⟨kb, 0, none⟩) (0 + 1 + 1) bc, .slice (some ⟨sb, 0, none⟩) bl bd] (0, 0) _ pb Try.underlying30 rfl (by kernel_rfl) ?_) | (refine wpList_load_row rfl 30 _ rfl gc rfl 30 #[.int .i64 2, .slice (some ⟨kb, 0, none⟩) (0 + 1 + 1) bc, .slice (some ⟨sb, 0, none⟩) bl bd] (0, 0) _ pc Try.underlying30 rfl (by kernel_rfl) ?_) | (refine wpList_load_row rfl 30 _ rfl gd rfl 30 #[.int .i64 2, .slice (some ⟨kb, 0, none⟩) (0 + 1 + 1) bc, .slice (some ⟨sb, 0, none⟩) bl bd] (0, 0) _ pd Try.underlying30 rfl (by kernel_rfl) ?_) | fail)
  refine (find_any (v13.alloc (.cells #[.int .u8 98] 5 (1, 2))) 2 (some ⟨kb, 0, none⟩) (0 + 1 + 1) bc (some ⟨sb, 0, none⟩) bl bd ([] ++ [[97]] ++ [[98]]) s2 rs2 Mb'.rd (some ⟨v13.heap.size, 0, none⟩) 1 1 [98] hk).mono ?_
  rintro e w25 ⟨⟨fp, fh, rfl, ft, ff⟩, B1⟩
  obtain ⟨rfl, rfl⟩ : fh = true ∧ fp = 1 := by
    cases fh with
    | false => exact absurd rfl ((ff rfl).2 1 (by decide))
    | true =>
      obtain ⟨h1, h2⟩ := ft rfl
      match fp, h1, h2 with
      | 0, _, h2 => exact absurd h2 (by decide)
      | 1, _, _ => exact ⟨rfl, rfl⟩
      | n + 2, h1, _ => exact absurd h1 (by simp)
  replace pt := (B1.block _ (Array.getElem?_eq_some_iff.1 pt').1).trans pt'
  replace pa := (B1.block _ (Array.getElem?_eq_some_iff.1 pa').1).trans pa'
  replace pb := (B1.block _ (Array.getElem?_eq_some_iff.1 pb').1).trans pb'
  replace pc := (B1.block _ (Array.getElem?_eq_some_iff.1 pc').1).trans pc'
  replace pd := (B1.block _ (Array.getElem?_eq_some_iff.1 pd').1).trans pd'
  replace Ma := Ma'.mono B1
  replace Mb := Mb'.mono B1
  replace bt := below_then bt' B1
  clear pt' pa' pb' pc' pd' Ma' Mb' hk k1 K bt'
  clear B1 ft ff
  have K := (Below.refl w25.heap.size w25).alloc (Nat.le_refl _) (.cells #[.int .u8 98] 5 (1, 2))
  have hk := bytesNew w25 98 (by decide)
  have k1 := kc w25 #[.int .u8 98] 1 1
  have Ma' := Ma.mono K
  have Mb' := Mb.mono K
  have pt' := (K.block _ (Array.getElem?_eq_some_iff.1 pt).1).trans pt
  have pa' := (K.block _ (Array.getElem?_eq_some_iff.1 pa).1).trans pa
  have pb' := (K.block _ (Array.getElem?_eq_some_iff.1 pb).1).trans pb
  have pc' := (K.block _ (Array.getElem?_eq_some_iff.1 pc).1).trans pc
  have pd' := (K.block _ (Array.getElem?_eq_some_iff.1 pd).1).trans pd
  have bt' := below_then bt K
  go_wp2_with (first | (refine wpList_load_row rfl 30 _ rfl gt rfl 30 #[.int .i64 2, .slice none 0 0, .slice none 0 0] (0, 0) _ pt Try.underlying30 rfl (by kernel_rfl) ?_) | (refine wpList_load_row rfl 30 _ rfl ga rfl 30 #[.int .i64 2, .slice (some ⟨ka, 0, none⟩) (0 + 1) ac, .slice (some ⟨sa, 0, none⟩) al ad] (0, 0) _ pa Try.underlying30 rfl (by kernel_rfl) ?_) | (refine wpList_load_row rfl 30 _ rfl gb rfl 30 #[.int .i64 2, .slice (some ⟨kb, 0, none⟩) (0 + 1 + 1) bc, .slice (some ⟨sb, 0, none⟩) bl bd] (0, 0) _ pb Try.underlying30 rfl (by kernel_rfl) ?_) | (refine wpList_load_row rfl 30 _ rfl gc rfl 30 #[.int .i64 2, .slice (some ⟨kb, 0, none⟩) (0 + 1 + 1) bc, .slice (some ⟨sb, 0, none⟩) bl bd] (0, 0) _ pc Try.underlying30 rfl (by kernel_rfl) ?_) | (refine wpList_load_row rfl 30 _ rfl gd rfl 30 #[.int .i64 2, .slice (some ⟨kb, 0, none⟩) (0 + 1 + 1) bc, .slice (some ⟨sb, 0, none⟩) bl bd] (0, 0) _ pd Try.underlying30 rfl (by kernel_rfl) ?_) | fail)
  refine (find_any (w25.alloc (.cells #[.int .u8 98] 5 (1, 2))) 2 (some ⟨ka, 0, none⟩) (0 + 1) ac (some ⟨sa, 0, none⟩) al ad ([] ++ [[97]]) s1 rs1 Ma'.rd (some ⟨w25.heap.size, 0, none⟩) 1 1 [98] hk).mono ?_
  rintro e w27 ⟨⟨fp, fh, rfl, ft, ff⟩, B1⟩
  obtain rfl : fh = false := by
    cases fh with
    | false => rfl
    | true =>
      obtain ⟨h1, h2⟩ := ft rfl
      match fp, h1, h2 with
      | 0, _, h2 => exact absurd h2 (by decide)
      | n + 1, h1, _ => exact absurd h1 (by simp)
  obtain rfl := (ff rfl).1
  replace pt := (B1.block _ (Array.getElem?_eq_some_iff.1 pt').1).trans pt'
  replace pa := (B1.block _ (Array.getElem?_eq_some_iff.1 pa').1).trans pa'
  replace pb := (B1.block _ (Array.getElem?_eq_some_iff.1 pb').1).trans pb'
  replace pc := (B1.block _ (Array.getElem?_eq_some_iff.1 pc').1).trans pc'
  replace pd := (B1.block _ (Array.getElem?_eq_some_iff.1 pd').1).trans pd'
  replace Ma := Ma'.mono B1
  replace Mb := Mb'.mono B1
  replace bt := below_then bt' B1
  clear pt' pa' pb' pc' pd' Ma' Mb' hk k1 K bt'
  clear B1 ft ff
  go_wp2_with (first | (refine wpList_load_row rfl 30 _ rfl gt rfl 30 #[.int .i64 2, .slice none 0 0, .slice none 0 0] (0, 0) _ pt Try.underlying30 rfl (by kernel_rfl) ?_) | (refine wpList_load_row rfl 30 _ rfl ga rfl 30 #[.int .i64 2, .slice (some ⟨ka, 0, none⟩) (0 + 1) ac, .slice (some ⟨sa, 0, none⟩) al ad] (0, 0) _ pa Try.underlying30 rfl (by kernel_rfl) ?_) | (refine wpList_load_row rfl 30 _ rfl gb rfl 30 #[.int .i64 2, .slice (some ⟨kb, 0, none⟩) (0 + 1 + 1) bc, .slice (some ⟨sb, 0, none⟩) bl bd] (0, 0) _ pb Try.underlying30 rfl (by kernel_rfl) ?_) | (refine wpList_load_row rfl 30 _ rfl gc rfl 30 #[.int .i64 2, .slice (some ⟨kb, 0, none⟩) (0 + 1 + 1) bc, .slice (some ⟨sb, 0, none⟩) bl bd] (0, 0) _ pc Try.underlying30 rfl (by kernel_rfl) ?_) | (refine wpList_load_row rfl 30 _ rfl gd rfl 30 #[.int .i64 2, .slice (some ⟨kb, 0, none⟩) (0 + 1 + 1) bc, .slice (some ⟨sb, 0, none⟩) bl bd] (0, 0) _ pd Try.underlying30 rfl (by kernel_rfl) ?_) | fail)
  refine (key_ok _ 2 (some ⟨kb, 0, none⟩) (0 + 1 + 1) bc (some ⟨sb, 0, none⟩) bl bd ([] ++ [[97]] ++ [[98]]) s2 rs2 Mb.rd (by decide) 0 (by decide)).mono ?_
  rintro e w80 ⟨⟨kx, kl, kq, rfl, hx⟩, B1⟩
  replace pt := (B1.block _ (Array.getElem?_eq_some_iff.1 pt).1).trans pt
  replace pa := (B1.block _ (Array.getElem?_eq_some_iff.1 pa).1).trans pa
  replace pb := (B1.block _ (Array.getElem?_eq_some_iff.1 pb).1).trans pb
  replace pc := (B1.block _ (Array.getElem?_eq_some_iff.1 pc).1).trans pc
  replace pd := (B1.block _ (Array.getElem?_eq_some_iff.1 pd).1).trans pd
  replace Ma := Ma.mono B1
  replace Mb := Mb.mono B1
  replace bt := below_then bt B1
  clear B1
  go_wp2_with (first | (refine wpList_load_row rfl 30 _ rfl gt rfl 30 #[.int .i64 2, .slice none 0 0, .slice none 0 0] (0, 0) _ pt Try.underlying30 rfl (by kernel_rfl) ?_) | (refine wpList_load_row rfl 30 _ rfl ga rfl 30 #[.int .i64 2, .slice (some ⟨ka, 0, none⟩) (0 + 1) ac, .slice (some ⟨sa, 0, none⟩) al ad] (0, 0) _ pa Try.underlying30 rfl (by kernel_rfl) ?_) | (refine wpList_load_row rfl 30 _ rfl gb rfl 30 #[.int .i64 2, .slice (some ⟨kb, 0, none⟩) (0 + 1 + 1) bc, .slice (some ⟨sb, 0, none⟩) bl bd] (0, 0) _ pb Try.underlying30 rfl (by kernel_rfl) ?_) | (refine wpList_load_row rfl 30 _ rfl gc rfl 30 #[.int .i64 2, .slice (some ⟨kb, 0, none⟩) (0 + 1 + 1) bc, .slice (some ⟨sb, 0, none⟩) bl bd] (0, 0) _ pc Try.underlying30 rfl (by kernel_rfl) ?_) | (refine wpList_load_row rfl 30 _ rfl gd rfl 30 #[.int .i64 2, .slice (some ⟨kb, 0, none⟩) (0 + 1 + 1) bc, .slice (some ⟨sb, 0, none⟩) bl bd] (0, 0) _ pd Try.underlying30 rfl (by kernel_rfl) ?_) | fail)
  refine (key_bad _ 2 (some ⟨kb, 0, none⟩) (0 + 1 + 1) bc _ 2 (.inr (by decide)) (by decide)).mono ?_
  rintro e w81 ⟨rfl, B1⟩
  replace pt := (B1.block _ (Array.getElem?_eq_some_iff.1 pt).1).trans pt
  replace pa := (B1.block _ (Array.getElem?_eq_some_iff.1 pa).1).trans pa
  replace pb := (B1.block _ (Array.getElem?_eq_some_iff.1 pb).1).trans pb
  replace pc := (B1.block _ (Array.getElem?_eq_some_iff.1 pc).1).trans pc
  replace pd := (B1.block _ (Array.getElem?_eq_some_iff.1 pd).1).trans pd
  replace Ma := Ma.mono B1
  replace Mb := Mb.mono B1
  replace bt := below_then bt B1
  replace hx := hx.mono B1
  clear B1
  go_wp2_with (first | (refine wpList_load_row rfl 30 _ rfl gt rfl 30 #[.int .i64 2, .slice none 0 0, .slice none 0 0] (0, 0) _ pt Try.underlying30 rfl (by kernel_rfl) ?_) | (refine wpList_load_row rfl 30 _ rfl ga rfl 30 #[.int .i64 2, .slice (some ⟨ka, 0, none⟩) (0 + 1) ac, .slice (some ⟨sa, 0, none⟩) al ad] (0, 0) _ pa Try.underlying30 rfl (by kernel_rfl) ?_) | (refine wpList_load_row rfl 30 _ rfl gb rfl 30 #[.int .i64 2, .slice (some ⟨kb, 0, none⟩) (0 + 1 + 1) bc, .slice (some ⟨sb, 0, none⟩) bl bd] (0, 0) _ pb Try.underlying30 rfl (by kernel_rfl) ?_) | (refine wpList_load_row rfl 30 _ rfl gc rfl 30 #[.int .i64 2, .slice (some ⟨kb, 0, none⟩) (0 + 1 + 1) bc, .slice (some ⟨sb, 0, none⟩) bl bd] (0, 0) _ pc Try.underlying30 rfl (by kernel_rfl) ?_) | (refine wpList_load_row rfl 30 _ rfl gd rfl 30 #[.int .i64 2, .slice (some ⟨kb, 0, none⟩) (0 + 1 + 1) bc, .slice (some ⟨sb, 0, none⟩) bl bd] (0, 0) _ pd Try.underlying30 rfl (by kernel_rfl) ?_) | fail)
  refine (new_bad _ (-1) (by decide)).mono ?_
  rintro e w82 ⟨rfl, B1⟩
  replace pt := (B1.block _ (Array.getElem?_eq_some_iff.1 pt).1).trans pt
  replace pa := (B1.block _ (Array.getElem?_eq_some_iff.1 pa).1).trans pa
  replace pb := (B1.block _ (Array.getElem?_eq_some_iff.1 pb).1).trans pb
  replace pc := (B1.block _ (Array.getElem?_eq_some_iff.1 pc).1).trans pc
  replace pd := (B1.block _ (Array.getElem?_eq_some_iff.1 pd).1).trans pd
  replace Ma := Ma.mono B1
  replace Mb := Mb.mono B1
  replace bt := below_then bt B1
  replace hx := hx.mono B1
  clear B1
  have A := (Below.refl w82.heap.size w82).alloc (Nat.le_refl _) (.cells #[.int .i64 0, .slice none 0 0, .slice none 0 0] 30)
  replace pa := (A.block _ (Array.getElem?_eq_some_iff.1 pa).1).trans pa
  replace pb := (A.block _ (Array.getElem?_eq_some_iff.1 pb).1).trans pb
  replace hx : BytesAt _ (some kx) kl kq [97] := hx.mono A
  replace bt := below_then bt A
  have hcv := hx.conv 23 5 9 Try.underlying23 Try.underlying5 Try.underlying9
  rw [show strOfNums ([97].map fun (c : Nat) => (c : Int)) = ⟨#[97]⟩ from rfl] at hcv
  have qb0 := cell_of_row _ gb 0 _ _ _ pb
  have qb1 := cell_of_row _ gb 1 _ _ _ pb
  have qb2 := cell_of_row _ gb 2 _ _ _ pb
  simp only [List.getElem?_toArray, List.getElem?_cons_zero, List.getElem?_cons_succ] at qb0 qb1 qb2
  clear pt pc pd Ma Mb A hx
  go_wp2_with fail
  refine (many_any _ 2 _ (0 + 1 + 1) bc _ (by decide)).mono ?_
  rintro e w83 ⟨rfl, B1⟩
  replace pa := (B1.block _ (Array.getElem?_eq_some_iff.1 pa).1).trans pa
  replace bt := below_then bt B1
  clear qb0 qb1 qb2 hcv B1 pb
  have qb0 := cell_of_row _ ga 0 _ _ _ pa
  have qb1 := cell_of_row _ ga 1 _ _ _ pa
  have qb2 := cell_of_row _ ga 2 _ _ _ pa
  simp only [List.getElem?_toArray, List.getElem?_cons_zero, List.getElem?_cons_succ] at qb0 qb1 qb2
  go_wp2_with fail
  refine (many_any _ 2 _ (0 + 1) ac _ (by decide)).mono ?_
  rintro e w84 ⟨rfl, B1⟩
  go_wp2_with fail
  go_ret
  exact ⟨rfl, below_then bt B1⟩
end Go.Proofs.Ytkklciecdhbleaa
