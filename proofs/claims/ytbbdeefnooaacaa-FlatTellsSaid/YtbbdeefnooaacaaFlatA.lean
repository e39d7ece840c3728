/- The plain store: New, Many, Member, Insert. -/
import Derived.Test.YtbbdeefnooaacaaMarks
namespace Go.Proofs.Ytbbdeefnooaacaa
open Go.RowKit
set_option linter.unusedVariables false
set_option linter.unusedSimpArgs false

theorem four_other (w : World) (g : Nat) (a b c d : Value) (x : Nat) (h : x ≠ g) : ((((w.setCell ⟨g, 0, none⟩ a).setCell ⟨g, 1, none⟩ b).setCell ⟨g, 2, none⟩ c).setCell ⟨g, 3, none⟩ d).heap[x]? = w.heap[x]? := by
  rw [Below.heap_setCell _ _ _ _ h, Below.heap_setCell _ _ _ _ h, Below.heap_setCell _ _ _ _ h, Below.heap_setCell _ _ _ _ h]
theorem four_size (w : World) (g : Nat) (a b c d : Value) : ((((w.setCell ⟨g, 0, none⟩ a).setCell ⟨g, 1, none⟩ b).setCell ⟨g, 2, none⟩ c).setCell ⟨g, 3, none⟩ d).heap.size = w.heap.size := by simp [World.setCell]
theorem four_below {B : Nat} {w0 w : World} (h : Below B w0 w) {g : Nat} (hg : B ≤ g) (a b c d : Value) : Below B w0 ((((w.setCell ⟨g, 0, none⟩ a).setCell ⟨g, 1, none⟩ b).setCell ⟨g, 2, none⟩ c).setCell ⟨g, 3, none⟩ d) := (((h.setCell hg _).setCell hg _).setCell hg _).setCell hg _
theorem four_rowU (w : World) (g : Nat) (a b c d x y z u : Value) (t : TypeId) (h : w.heap[g]? = some (.cells #[x, y, z, u] t (0, 0))) : ((((w.setCell ⟨g, 0, none⟩ a).setCell ⟨g, 1, none⟩ b).setCell ⟨g, 2, none⟩ c).setCell ⟨g, 3, none⟩ d).heap[g]? = some (.cells #[a, b, c, d] t (0, 0)) := by
  have h1 := Joins.block_setCell (i := 0) h a
  have h2 := Joins.block_setCell (i := 1) h1 b
  have h3 := Joins.block_setCell (i := 2) h2 c
  have h4 := Joins.block_setCell (i := 3) h3 d
  exact h4
theorem three_other (w : World) (g : Nat) (a b c : Value) (x : Nat) (h : x ≠ g) : (((w.setCell ⟨g, 0, none⟩ a).setCell ⟨g, 1, none⟩ b).setCell ⟨g, 2, none⟩ c).heap[x]? = w.heap[x]? := by
  rw [Below.heap_setCell _ _ _ _ h, Below.heap_setCell _ _ _ _ h, Below.heap_setCell _ _ _ _ h]
theorem three_size (w : World) (g : Nat) (a b c : Value) : (((w.setCell ⟨g, 0, none⟩ a).setCell ⟨g, 1, none⟩ b).setCell ⟨g, 2, none⟩ c).heap.size = w.heap.size := by simp [World.setCell]
theorem three_below {B : Nat} {w0 w : World} (h : Below B w0 w) {g : Nat} (hg : B ≤ g) (a b c : Value) : Below B w0 (((w.setCell ⟨g, 0, none⟩ a).setCell ⟨g, 1, none⟩ b).setCell ⟨g, 2, none⟩ c) := ((h.setCell hg _).setCell hg _).setCell hg _
set_option maxRecDepth 20000 in
set_option maxHeartbeats 1000000 in
theorem newF_of (w : World) (most M E : Int) (h : Calls Try.prog 17 #[.int .i64 most] (w.alloc (.cells #[.int .i64 0, .slice none 0 0, .slice none 0 0, .slice none 0 0] 31)) fun e w' => e = .returned (.tuple #[.agg #[.int .i64 M, .slice none 0 0, .slice none 0 0], .int .i64 E]) ∧ Below (w.alloc (.cells #[.int .i64 0, .slice none 0 0, .slice none 0 0, .slice none 0 0] 31)).heap.size (w.alloc (.cells #[.int .i64 0, .slice none 0 0, .slice none 0 0, .slice none 0 0] 31)) w') :
    Calls Try.prog 6 #[.int .i64 most] w fun e w' => e = .returned (.tuple #[.agg #[.int .i64 M, .slice none 0 0, .slice none 0 0, .slice none 0 0], .int .i64 E]) ∧ Below w.heap.size w w' := by
  have H := Lib.hid h
  clear h
  go_enter Try.func6, Try.ntmps6
  go_wp2_with fail
  refine H.out.mono ?_
  rintro e w1 ⟨rfl, b1⟩
  have gR := (b1.block w.heap.size (by simp)).trans (heap_alloc_new w (.cells #[.int .i64 0, .slice none 0 0, .slice none 0 0, .slice none 0 0] 31))
  have k0 := cell_of_row _ _ 0 _ _ _ gR
  have k1 := cell_of_row _ _ 1 _ _ _ gR
  have k2 := cell_of_row _ _ 2 _ _ _ gR
  have k3 := cell_of_row _ _ 3 _ _ _ gR
  simp only [List.getElem?_toArray, List.getElem?_cons_zero, List.getElem?_cons_succ] at k0 k1 k2 k3
  have f0 := frozen_of_row w1 _ 0 _ _ gR
  have f1 := frozen_of_row w1 _ 1 _ _ gR
  have f2 := frozen_of_row w1 _ 2 _ _ gR
  have f3 := frozen_of_row w1 _ 3 _ _ gR
  have hlt : w.heap.size < w1.heap.size := by have := b1.size; simp at this; omega
  go_wp2_with fail
  have gT := four_rowU w1 w.heap.size (.int .i64 M) (.slice none 0 0) (.slice none 0 0) (.slice none 0 0) _ _ _ _ _ gR
  have gF := (Below.heap_alloc _ (.cells #[.int .i64 M, .slice none 0 0, .slice none 0 0] 28) w.heap.size (by rw [four_size]; exact hlt)).trans gT
  have q0 := cell_of_row _ _ 0 _ _ _ gF
  have q1 := cell_of_row _ _ 1 _ _ _ gF
  have q2 := cell_of_row _ _ 2 _ _ _ gF
  have q3 := cell_of_row _ _ 3 _ _ _ gF
  simp only [List.getElem?_toArray, List.getElem?_cons_zero, List.getElem?_cons_succ] at q0 q1 q2 q3
  exact bodyPost_ret (v := .tuple #[.agg #[.int .i64 M, .slice none 0 0, .slice none 0 0, .slice none 0 0], .int .i64 E]) (by simp [results, Try.results6, go_sem, q0, q1, q2, q3]) rfl ⟨rfl, (four_below (below_then ((Below.refl _ _).alloc (Nat.le_refl _) _) b1) (Nat.le_refl _) _ _ _ _).alloc (by rw [four_size]; omega) _⟩
theorem newF_ok (w : World) (most : Int) (h : 0 ≤ most ∧ most ≤ 1048576) : Calls Try.prog 6 #[.int .i64 most] w fun e w' => e = .returned (.tuple #[.agg #[.int .i64 most, .slice none 0 0, .slice none 0 0, .slice none 0 0], .int .i64 0]) ∧ Below w.heap.size w w' := newF_of w most most 0 (new_ok _ most h)
theorem newF_bad (w : World) (most : Int) (h : ¬ (0 ≤ most ∧ most ≤ 1048576)) : Calls Try.prog 6 #[.int .i64 most] w fun e w' => e = .returned (.tuple #[.agg #[.int .i64 0, .slice none 0 0, .slice none 0 0, .slice none 0 0], .int .i64 1]) ∧ Below w.heap.size w w' := newF_of w most 0 1 (new_bad _ most h)
theorem manyF_any (w : World) (cap : Int) (ka : Option Addr) (n kc : Nat) (sa : Option Addr) (sl sc : Nat) (v : Value) (hn : n ≤ 1048576) : Calls Try.prog 8 #[.agg #[.int .i64 cap, .slice ka n kc, .slice sa sl sc, v]] w fun e w' => e = .returned (.int .i64 (n : Nat)) ∧ Below w.heap.size w w' := by
  go_enter Try.func8, Try.ntmps8
  go_wp2_with fail
  refine (many_any _ cap ka n kc _ hn).mono ?_
  rintro e w1 ⟨rfl, b1⟩
  go_wp2_with fail
  go_ret
  exact ⟨rfl, below_then ((Below.refl _ _).alloc (Nat.le_refl _) _) b1⟩
theorem memberF_any (w : World) (cap : Int) (ka : Option Addr) (n kc : Nat) (sa : Option Addr) (sl sc : Nat) (v : Value) (ks : List (List Nat)) (s : List Int) (rs : List (Nat × Nat)) (h : TabR w ka n sa sl ks s rs) (ya : Option Addr) (yl yc : Nat) (key : List Nat) (hk : BytesAt w ya yl yc key) :
    Calls Try.prog 15 #[.agg #[.int .i64 cap, .slice ka n kc, .slice sa sl sc, v], .slice ya yl yc] w fun e w' => e = .returned (.bool (decide (key ∈ ks))) ∧ Below w.heap.size w w' := by
  have b1 : Below w.heap.size w (w.alloc (.cells #[.int .i64 cap, .slice ka n kc, .slice sa sl sc, v] 31)) := (Below.refl _ _).alloc (Nat.le_refl _) _
  go_enter Try.func15, Try.ntmps15
  go_wp2_with fail
  refine (find_le _ cap ka n kc sa sl sc ks s rs (h.mono b1) ya yl yc key (hk.mono b1)).mono ?_
  rintro e w1 ⟨⟨p, rfl, h1, h2⟩, b2⟩
  clear h1 h2
  go_wp2_with fail
  go_ret
  exact ⟨rfl, below_then b1 b2⟩
set_option maxRecDepth 20000 in
set_option maxHeartbeats 2000000 in
theorem insertF_all (w : World) (cap : Int) (hcap0 : 0 ≤ cap) (hcap : cap ≤ 1048576) (B : Nat) (ka : Option Addr) (n kc : Nat) (sa : Option Addr) (sl sc : Nat) (fa : Option Addr) (fl fc : Nat) (ks : List (List Nat)) (s : List Int) (rs : List (Nat × Nat)) (h : TabM w B ka n kc sa sl sc ks s rs) (hB : B ≤ w.heap.size) (ya : Option Addr) (yl yc : Nat) (key : List Nat) (hk : BytesAt w ya yl yc key) (hyl : yl ≤ 1000000) (hnd : ks.Nodup) :
    Calls Try.prog 9 #[.agg #[.int .i64 cap, .slice ka n kc, .slice sa sl sc, .slice fa fl fc], .slice ya yl yc] w fun e w' => ∃ (ka' : Option Addr) (n' kc' : Nat) (sa' : Option Addr) (sl' sc' : Nat) (ks' : List (List Nat)) (s' : List Int) (rs' : List (Nat × Nat)) (p : Nat) (F : Bool) (E : Int), e = .returned (.tuple #[.agg #[.int .i64 cap, .slice ka' n' kc', .slice sa' sl' sc', .slice fa fl fc], .bool F, .int .i64 E]) ∧
      TabM w' B ka' n' kc' sa' sl' sc' ks' s' rs' ∧ TabM w' B ka n kc sa sl sc ks s rs ∧ Below B w w' ∧ KeptT w w' B ka n sa ka' n' sa' ∧ OutP cap ks key p F E ks' ∧ StayT w w' F (ka' = ka ∧ n' = n ∧ kc' = kc ∧ sa' = sa ∧ sl' = sl ∧ sc' = sc) := by
  have b1 : Below w.heap.size w ((w.alloc (.cells #[.int .i64 cap, .slice ka n kc, .slice sa sl sc, .slice fa fl fc] 31)).alloc (.cells #[.int .i64 0, .slice none 0 0, .slice none 0 0, .slice none 0 0] 31)) := ((Below.refl _ _).alloc (Nat.le_refl _) _).alloc (by simp) _
  have g1 : ((w.alloc (.cells #[.int .i64 cap, .slice ka n kc, .slice sa sl sc, .slice fa fl fc] 31)).alloc (.cells #[.int .i64 0, .slice none 0 0, .slice none 0 0, .slice none 0 0] 31)).heap[w.heap.size]? = some (.cells #[.int .i64 cap, .slice ka n kc, .slice sa sl sc, .slice fa fl fc] 31 (0, 0)) := (Below.heap_alloc _ _ _ (by simp)).trans (heap_alloc_new _ _)
  have g2 := heap_alloc_new (w.alloc (.cells #[.int .i64 cap, .slice ka n kc, .slice sa sl sc, .slice fa fl fc] 31)) (.cells #[.int .i64 0, .slice none 0 0, .slice none 0 0, .slice none 0 0] 31)
  rw [World.size_alloc] at g2
  go_enter Try.func9, Try.ntmps9
  go_upto_region 1 with fail
  obtain ⟨W1, hv⟩ : ∃ v, (w.alloc (.cells #[.int .i64 cap, .slice ka n kc, .slice sa sl sc, .slice fa fl fc] 31)).alloc (.cells #[.int .i64 0, .slice none 0 0, .slice none 0 0, .slice none 0 0] 31) = v := ⟨_, rfl⟩
  obtain ⟨g, hg⟩ : ∃ g, w.heap.size = g := ⟨_, rfl⟩
  obtain ⟨gr, hgr⟩ : ∃ g, w.heap.size + 1 = g := ⟨_, rfl⟩
  rw [hv] at b1 g1 g2 ⊢
  rw [hgr] at g2 ⊢
  have h1 := h.mono b1
  have hk1 := hk.mono b1
  have b2 : Below w.heap.size w W1 := b1
  rw [hg] at g1 ⊢
  have hgw : w.heap.size ≤ gr := by omega
  have hgrB : B ≤ gr := by omega
  clear hv b1 hg hgr
  have q0 := cell_of_row _ _ 0 _ _ _ g1
  have q1 := cell_of_row _ _ 1 _ _ _ g1
  have q2 := cell_of_row _ _ 2 _ _ _ g1
  simp only [List.getElem?_toArray, List.getElem?_cons_zero, List.getElem?_cons_succ] at q0 q1 q2
  go_wp2_with fail
  refine (insert_all W1 cap hcap0 hcap B ka n kc sa sl sc ks s rs h1 (Nat.le_trans hB b2.size) ya yl yc key hk1 hyl hnd).mono ?_
  rintro e w5 ⟨ka', n', kc', sa', sl', sc', ks', s', rs', p, F, E, rfl, Mx, Mo, bx, HT, hout, hst⟩
  have gA := HT.recd g _ _ _ g1 (by decide) (by decide)
  have gR := HT.recd gr _ _ _ g2 (by decide) (by decide)
  have HTW := HT.pre b2
  have HST := Lib.hid (hst.pre b2)
  have HO := Lib.hid hout
  have bw : Below B w w5 := (b2.mono hB).trans bx
  clear q0 q1 q2 hst hout HT bx h1 hk1 g1 g2
  have al := (Below.refl w5.heap.size w5).alloc (Nat.le_refl _) (.cells #[.int .i64 cap, .slice ka' n' kc', .slice sa' sl' sc'] 28)
  have px : (w5.alloc (.cells #[.int .i64 cap, .slice ka' n' kc', .slice sa' sl' sc'] 28)).heap[w5.heap.size]? = some (.cells #[.int .i64 cap, .slice ka' n' kc', .slice sa' sl' sc'] 28 (0, 0)) := heap_alloc_new _ _
  have gA2 := (al.block g (Array.getElem?_eq_some_iff.1 gA).1).trans gA
  have gR2 := (al.block gr (Array.getElem?_eq_some_iff.1 gR).1).trans gR
  have Mx2 := Mx.mono al
  have Mo2 := Mo.mono al
  have HT2 := HTW.next_below al
  have HST2 := Lib.hid (HST.out.next_below al)
  have bw2 := bw.trans (al.mono (Nat.le_trans hB HTW.size))
  go_upto_region 2 with fail
  obtain ⟨W6, hv⟩ : ∃ v, w5.alloc (.cells #[.int .i64 cap, .slice ka' n' kc', .slice sa' sl' sc'] 28) = v := ⟨_, rfl⟩
  obtain ⟨gx, hgx⟩ : ∃ g, w5.heap.size = g := ⟨_, rfl⟩
  rw [hv] at px gA2 gR2 Mx2 Mo2 HT2 HST2 bw2 ⊢
  rw [hgx] at px ⊢
  clear hv hgx al gA gR Mx Mo HTW HST bw
  have q3 := cell_of_row _ _ 3 _ _ _ gA2
  have k0 := cell_of_row _ _ 0 _ _ _ gR2
  have k1 := cell_of_row _ _ 1 _ _ _ gR2
  have k2 := cell_of_row _ _ 2 _ _ _ gR2
  have k3 := cell_of_row _ _ 3 _ _ _ gR2
  simp only [List.getElem?_toArray, List.getElem?_cons_zero, List.getElem?_cons_succ] at q3 k0 k1 k2 k3
  have f0 := frozen_of_row W6 _ 0 _ _ gR2
  have f1 := frozen_of_row W6 _ 1 _ _ gR2
  have f2 := frozen_of_row W6 _ 2 _ _ gR2
  have f3 := frozen_of_row W6 _ 3 _ _ gR2
  go_wp2_with (first | (refine wpList_load_row rfl 28 _ rfl gx rfl 28 _ _ _ px Try.underlying28 rfl (by kernel_rfl) ?_) | fail)
  have gF := four_rowU W6 gr (.int .i64 cap) (.slice ka' n' kc') (.slice sa' sl' sc') (.slice fa fl fc) _ _ _ _ _ gR2
  have r0 := cell_of_row _ _ 0 _ _ _ gF
  have r1 := cell_of_row _ _ 1 _ _ _ gF
  have r2 := cell_of_row _ _ 2 _ _ _ gF
  have r3 := cell_of_row _ _ 3 _ _ _ gF
  simp only [List.getElem?_toArray, List.getElem?_cons_zero, List.getElem?_cons_succ] at r0 r1 r2 r3
  have hno : NoU8 W6 gr := noU8_rec gR2 fun v hv m => by simp at hv; rcases hv with rfl | rfl | rfl | rfl <;> simp
  exact bodyPost_ret (v := .tuple #[.agg #[.int .i64 cap, .slice ka' n' kc', .slice sa' sl' sc', .slice fa fl fc], .bool F, .int .i64 E]) (by simp [results, Try.results9, go_sem, r0, r1, r2, r3]) rfl ⟨ka', n', kc', sa', sl', sc', ks', s', rs', p, F, E, rfl, Mx2.offrec gR2 hno (by decide) (by decide) (four_size _ _ _ _ _ _) (fun b hb => four_other _ _ _ _ _ _ _ hb), Mo2.offrec gR2 hno (by decide) (by decide) (four_size _ _ _ _ _ _) (fun b hb => four_other _ _ _ _ _ _ _ hb), four_below bw2 hgrB _ _ _ _, HT2.store hgw gR2 hno (by decide) (by decide) (four_size _ _ _ _ _ _) (fun b hb => four_other _ _ _ _ _ _ _ hb), HO.out, HST2.out.next fun h => four_below h hgw _ _ _ _⟩
end Go.Proofs.Ytbbdeefnooaacaa
