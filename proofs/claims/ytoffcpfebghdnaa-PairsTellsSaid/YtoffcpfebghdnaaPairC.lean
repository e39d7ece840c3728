/- Pairs: Insert (by gen05i.py). -/
import Derived.Test.YtoffcpfebghdnaaPairB
namespace Go.Proofs.Ytoffcpfebghdnaa
open Go.RowKit
set_option linter.unusedVariables false
set_option linter.unusedSimpArgs false

set_option maxHeartbeats 2000000 in
theorem insertP_all (w : World) (cap : Int) (hcap0 : 0 ≤ cap) (hcap : cap ≤ 1048576) (B : Nat) (ka : Option Addr) (n kc : Nat) (sa : Option Addr) (sl sc : Nat) (ks : List (List Nat)) (s : List Int) (rs : List (Nat × Nat)) (h : TabM w B ka n kc sa sl sc ks s rs) (hB : B ≤ w.heap.size) (a b : Nat) (ha : a < 4294967296) (hb : b < 4294967296) (hnd : ks.Nodup) :
    Calls Try.prog 8 #[.agg #[.int .i64 cap, .slice ka n kc, .slice sa sl sc], .int .u32 (a : Nat), .int .u32 (b : Nat)] w fun e w' => ∃ (ka' : Option Addr) (n' kc' : Nat) (sa' : Option Addr) (sl' sc' : Nat) (ks' : List (List Nat)) (s' : List Int) (rs' : List (Nat × Nat)) (p : Nat) (F : Bool) (E : Int), e = .returned (.tuple #[.agg #[.int .i64 cap, .slice ka' n' kc', .slice sa' sl' sc'], .int .i64 (p : Nat), .bool F, .int .i64 E]) ∧
      TabM w' B ka' n' kc' sa' sl' sc' ks' s' rs' ∧ TabM w' B ka n kc sa sl sc ks s rs ∧ Below B w w' ∧ KeptT w w' B ka n sa ka' n' sa' ∧ OutP cap ks (pk a b) p F E ks' ∧ StayT w w' F (ka' = ka ∧ n' = n ∧ kc' = kc ∧ sa' = sa ∧ sl' = sl ∧ sc' = sc) := by
  have b1 : Below w.heap.size w ((w.alloc (.cells #[.int .i64 cap, .slice ka n kc, .slice sa sl sc] 32)).alloc (.cells #[.int .i64 0, .slice none 0 0, .slice none 0 0] 32)) := ((Below.refl _ _).alloc (Nat.le_refl _) _).alloc (by simp) _
  have g1 : ((w.alloc (.cells #[.int .i64 cap, .slice ka n kc, .slice sa sl sc] 32)).alloc (.cells #[.int .i64 0, .slice none 0 0, .slice none 0 0] 32)).heap[w.heap.size]? = some (.cells #[.int .i64 cap, .slice ka n kc, .slice sa sl sc] 32 (0, 0)) := (Below.heap_alloc _ _ _ (by simp)).trans (heap_alloc_new _ _)
  have g2 := heap_alloc_new (w.alloc (.cells #[.int .i64 cap, .slice ka n kc, .slice sa sl sc] 32)) (.cells #[.int .i64 0, .slice none 0 0, .slice none 0 0] 32)
  rw [World.size_alloc] at g2
  have HW := Lib.hid hnd
  have hnd' := hnd
  go_enter Try.func8, Try.ntmps8
  go_upto_region 1 with fail
  obtain ⟨W1, hv⟩ : ∃ v, (w.alloc (.cells #[.int .i64 cap, .slice ka n kc, .slice sa sl sc] 32)).alloc (.cells #[.int .i64 0, .slice none 0 0, .slice none 0 0] 32) = v := ⟨_, rfl⟩
  obtain ⟨g, hg⟩ : ∃ g, w.heap.size = g := ⟨_, rfl⟩
  obtain ⟨gr, hgr⟩ : ∃ g, w.heap.size + 1 = g := ⟨_, rfl⟩
  rw [hv] at b1 g1 g2 ⊢
  rw [hgr] at g2 ⊢
  have h1 := h.mono b1
  have b2 : Below w.heap.size w W1 := b1
  rw [hg] at g1 ⊢
  have hgw : w.heap.size ≤ gr := by omega
  clear hv b1 hg hgr
  have gl := (Array.getElem?_eq_some_iff.1 g1).1
  have grl := (Array.getElem?_eq_some_iff.1 g2).1
  have hBW : B ≤ W1.heap.size := Nat.le_trans hB b2.size
  have hgrB : B ≤ gr := Nat.le_trans hB hgw
  go_cut [10, 11, 12, 13] from 14 to 24 (fun v10 v11 v12 v13 w' => ∃ (gx : Nat) (ka' : Option Addr) (n' kc' : Nat) (sa' : Option Addr) (sl' sc' : Nat) (ks' : List (List Nat)) (s' : List Int) (rs' : List (Nat × Nat)) (p : Nat) (F : Bool) (E : Int), v10 = .pointer (some ⟨gx, 0, none⟩) ∧ v11 = .int .i64 (p : Nat) ∧ v12 = .bool F ∧ v13 = .int .i64 E ∧ gx ≠ gr ∧ w'.heap[gr]? = some (.cells #[.int .i64 0, .slice none 0 0, .slice none 0 0] 32 (0, 0)) ∧ w'.heap[gx]? = some (.cells #[.int .i64 cap, .slice ka' n' kc', .slice sa' sl' sc'] 30 (0, 0)) ∧ TabM w' B ka' n' kc' sa' sl' sc' ks' s' rs' ∧ TabM w' B ka n kc sa sl sc ks s rs ∧ Below B w w' ∧ KeptT w w' B ka n sa ka' n' sa' ∧ OutP cap ks (pk a b) p F E ks' ∧ StayT w w' F (ka' = ka ∧ n' = n ∧ kc' = kc ∧ sa' = sa ∧ sl' = sl ∧ sc' = sc))
  case first =>
    have bD : Below W1.heap.size W1 W1.drew := (Below.refl _ _).drew
    have bA : Below W1.heap.size W1 (W1.alloc (.cells #[.int .i64 0, .slice none 0 0, .slice none 0 0] 30)).drew := ((Below.refl _ _).alloc (Nat.le_refl _) _).drew
    have zA : (W1.alloc (.cells #[.int .i64 0, .slice none 0 0, .slice none 0 0] 30)).drew.heap[W1.heap.size]? = some (.cells #[.int .i64 0, .slice none 0 0, .slice none 0 0] 30 (0, 0)) := heap_alloc_new W1 _
    have lA : W1.heap.size < (W1.alloc (.cells #[.int .i64 0, .slice none 0 0, .slice none 0 0] 30)).drew.heap.size := (Array.getElem?_eq_some_iff.1 zA).1
    have q0 : W1.drew.cell? ⟨g, 0, none⟩ = some (.int .i64 cap) := cell_of_row _ _ 0 _ _ _ g1
    have qA0 : (W1.alloc (.cells #[.int .i64 0, .slice none 0 0, .slice none 0 0] 30)).drew.cell? ⟨g, 0, none⟩ = some (.int .i64 cap) := (bA.cell (p := ⟨g, 0, none⟩) gl).trans q0
    have q1 : W1.drew.cell? ⟨g, 1, none⟩ = some (.slice ka n kc) := cell_of_row _ _ 1 _ _ _ g1
    have qA1 : (W1.alloc (.cells #[.int .i64 0, .slice none 0 0, .slice none 0 0] 30)).drew.cell? ⟨g, 1, none⟩ = some (.slice ka n kc) := (bA.cell (p := ⟨g, 1, none⟩) gl).trans q1
    have q2 : W1.drew.cell? ⟨g, 2, none⟩ = some (.slice sa sl sc) := cell_of_row _ _ 2 _ _ _ g1
    have qA2 : (W1.alloc (.cells #[.int .i64 0, .slice none 0 0, .slice none 0 0] 30)).drew.cell? ⟨g, 2, none⟩ = some (.slice sa sl sc) := (bA.cell (p := ⟨g, 2, none⟩) gl).trans q2
    have hng : g ≠ W1.heap.size := Nat.ne_of_lt gl
    have hK := fun w' => key_any w' a b ha hb
    have hI := fun w' (hb' : Below W1.heap.size W1 w') x (hk : BytesAt w' (some ⟨x, 0, none⟩) 8 8 (pk a b)) => insert_all w' cap hcap0 hcap B ka n kc sa sl sc ks s rs (h1.mono hb') (Nat.le_trans hBW hb'.size) _ 8 8 (pk a b) hk (by decide) hnd'
    clear h h1 hnd
    go_region_held3 (fun w' => w'.cell? ⟨g, 0, none⟩ = some (.int .i64 cap) ∧ w'.cell? ⟨g, 1, none⟩ = some (.slice ka n kc) ∧ w'.cell? ⟨g, 2, none⟩ = some (.slice sa sl sc))
      (first | (refine ⟨?_, ?_, ?_⟩ <;> with_reducible assumption) | (refine ⟨?_, ?_, ?_⟩; with_reducible exact cellAlloc _ _ q0; with_reducible exact cellAlloc _ _ q1; with_reducible exact cellAlloc _ _ q2) | (refine ⟨?_, ?_, ?_⟩; with_reducible exact cellAlloc _ _ r0; with_reducible exact cellAlloc _ _ r1; with_reducible exact cellAlloc _ _ r2) | (refine ⟨?_, ?_, ?_⟩; with_reducible exact cellAlloc _ _ s0; with_reducible exact cellAlloc _ _ s1; with_reducible exact cellAlloc _ _ s2) | (refine ⟨?_, ?_, ?_⟩; with_reducible exact three_cellU _ _ _ _ _ _ _ hng s0; with_reducible exact three_cellU _ _ _ _ _ _ _ hng s1; with_reducible exact three_cellU _ _ _ _ _ _ _ hng s2) | (refine ⟨?_, ?_, ?_⟩; with_reducible exact three_cellU _ _ _ _ _ _ _ hnk s0; with_reducible exact three_cellU _ _ _ _ _ _ _ hnk s1; with_reducible exact three_cellU _ _ _ _ _ _ _ hnk s2))
      (first | (go_at_call 17; (with_reducible refine (hK W1.drew).mono ?_); rintro e wk ⟨⟨x, rfl, hk, _⟩, bk⟩; have bq := below_then bD bk; have r0 := (bk.cell (p := ⟨g, 0, none⟩) (Nat.lt_of_lt_of_le gl bD.size)).trans q0; have r1 := (bk.cell (p := ⟨g, 1, none⟩) (Nat.lt_of_lt_of_le gl bD.size)).trans q1; have r2 := (bk.cell (p := ⟨g, 2, none⟩) (Nat.lt_of_lt_of_le gl bD.size)).trans q2; have hnk : g ≠ wk.heap.size := Nat.ne_of_lt (Nat.lt_of_lt_of_le gl bq.size)) | (go_at_call 17; (with_reducible refine (hK (W1.alloc (.cells #[.int .i64 0, .slice none 0 0, .slice none 0 0] 30)).drew).mono ?_); rintro e wk ⟨⟨x, rfl, hk, _⟩, bk⟩; have bq := below_then bA bk; have zk := (bk.block _ lA).trans zA; have r0 := (bk.cell (p := ⟨g, 0, none⟩) (Nat.lt_of_lt_of_le gl bA.size)).trans qA0; have r1 := (bk.cell (p := ⟨g, 1, none⟩) (Nat.lt_of_lt_of_le gl bA.size)).trans qA1; have r2 := (bk.cell (p := ⟨g, 2, none⟩) (Nat.lt_of_lt_of_le gl bA.size)).trans qA2) | (go_at_call 16; (with_reducible refine (hI wk bq x hk).mono ?_); rintro e ws ⟨ka', n', kc', sa', sl', sc', ks', s', rs', p, F, E, rfl, Hx, Ho, bx, HT, hout, hstay⟩; have HO := Lib.hid hout; clear hout; have gt2 := HT.recd g _ _ _ ((bq.block g gl).trans g1) (by decide) (by decide); have gr2 := HT.recd gr _ _ _ ((bq.block gr grl).trans g2) (by decide) (by decide); have s0 : ws.cell? ⟨g, 0, none⟩ = some (.int .i64 cap) := cell_of_row _ _ 0 _ _ _ gt2; have s1 : ws.cell? ⟨g, 1, none⟩ = some (.slice ka n kc) := cell_of_row _ _ 1 _ _ _ gt2; have s2 : ws.cell? ⟨g, 2, none⟩ = some (.slice sa sl sc) := cell_of_row _ _ 2 _ _ _ gt2; have HTW := HT.pre (below_then b2 bq); have HST := hstay.pre (below_then b2 bq); clear hstay; have bw : Below B w ws := ((b2.mono hB).trans (bq.mono hBW)).trans bx; have gz := HT.recd W1.heap.size _ _ _ zk (by decide) (by decide); have v0 : ws.cell? ⟨W1.heap.size, 0, none⟩ = some (.int .i64 0) := cell_of_row _ _ 0 _ _ _ gz; have f0 := frozen_of_row ws W1.heap.size 0 _ _ gz; have v1 : ws.cell? ⟨W1.heap.size, 1, none⟩ = some (.slice none 0 0) := cell_of_row _ _ 1 _ _ _ gz; have f1 := frozen_of_row ws W1.heap.size 1 _ _ gz; have v2 : ws.cell? ⟨W1.heap.size, 2, none⟩ = some (.slice none 0 0) := cell_of_row _ _ 2 _ _ _ gz; have f2 := frozen_of_row ws W1.heap.size 2 _ _ gz) | (go_at_call 16; (with_reducible refine (hI (wk.alloc (.cells #[.int .i64 0, .slice none 0 0, .slice none 0 0] 30)) (below_then bq ((Below.refl wk.heap.size wk).alloc (Nat.le_refl _) (.cells #[.int .i64 0, .slice none 0 0, .slice none 0 0] 30))) x (hk.mono ((Below.refl wk.heap.size wk).alloc (Nat.le_refl _) (.cells #[.int .i64 0, .slice none 0 0, .slice none 0 0] 30)))).mono ?_); rintro e ws ⟨ka', n', kc', sa', sl', sc', ks', s', rs', p, F, E, rfl, Hx, Ho, bx, HT, hout, hstay⟩; have HO := Lib.hid hout; clear hout; have gt2 := HT.recd g _ _ _ (((below_then bq ((Below.refl wk.heap.size wk).alloc (Nat.le_refl _) (.cells #[.int .i64 0, .slice none 0 0, .slice none 0 0] 30))).block g gl).trans g1) (by decide) (by decide); have gr2 := HT.recd gr _ _ _ (((below_then bq ((Below.refl wk.heap.size wk).alloc (Nat.le_refl _) (.cells #[.int .i64 0, .slice none 0 0, .slice none 0 0] 30))).block gr grl).trans g2) (by decide) (by decide); have s0 : ws.cell? ⟨g, 0, none⟩ = some (.int .i64 cap) := cell_of_row _ _ 0 _ _ _ gt2; have s1 : ws.cell? ⟨g, 1, none⟩ = some (.slice ka n kc) := cell_of_row _ _ 1 _ _ _ gt2; have s2 : ws.cell? ⟨g, 2, none⟩ = some (.slice sa sl sc) := cell_of_row _ _ 2 _ _ _ gt2; have HTW := HT.pre (below_then b2 (below_then bq ((Below.refl wk.heap.size wk).alloc (Nat.le_refl _) (.cells #[.int .i64 0, .slice none 0 0, .slice none 0 0] 30)))); have HST := hstay.pre (below_then b2 (below_then bq ((Below.refl wk.heap.size wk).alloc (Nat.le_refl _) (.cells #[.int .i64 0, .slice none 0 0, .slice none 0 0] 30)))); clear hstay; have bw : Below B w ws := ((b2.mono hB).trans ((below_then bq ((Below.refl wk.heap.size wk).alloc (Nat.le_refl _) (.cells #[.int .i64 0, .slice none 0 0, .slice none 0 0] 30))).mono hBW)).trans bx; have gz := HT.recd wk.heap.size _ _ _ (heap_alloc_new wk _) (by decide) (by decide); have v0 : ws.cell? ⟨wk.heap.size, 0, none⟩ = some (.int .i64 0) := cell_of_row _ _ 0 _ _ _ gz; have f0 := frozen_of_row ws wk.heap.size 0 _ _ gz; have v1 : ws.cell? ⟨wk.heap.size, 1, none⟩ = some (.slice none 0 0) := cell_of_row _ _ 1 _ _ _ gz; have f1 := frozen_of_row ws wk.heap.size 1 _ _ gz; have v2 : ws.cell? ⟨wk.heap.size, 2, none⟩ = some (.slice none 0 0) := cell_of_row _ _ 2 _ _ _ gz; have f2 := frozen_of_row ws wk.heap.size 2 _ _ gz) | (go_at_call 16; (with_reducible refine (hI wk bq x hk).mono ?_); rintro e ws ⟨ka', n', kc', sa', sl', sc', ks', s', rs', p, F, E, rfl, Hx, Ho, bx, HT, hout, hstay⟩; have HO := Lib.hid hout; clear hout; have gt2 := HT.recd g _ _ _ ((bq.block g gl).trans g1) (by decide) (by decide); have gr2 := HT.recd gr _ _ _ ((bq.block gr grl).trans g2) (by decide) (by decide); have s0 : ws.cell? ⟨g, 0, none⟩ = some (.int .i64 cap) := cell_of_row _ _ 0 _ _ _ gt2; have s1 : ws.cell? ⟨g, 1, none⟩ = some (.slice ka n kc) := cell_of_row _ _ 1 _ _ _ gt2; have s2 : ws.cell? ⟨g, 2, none⟩ = some (.slice sa sl sc) := cell_of_row _ _ 2 _ _ _ gt2; have HTW := HT.pre (below_then b2 bq); have HST := hstay.pre (below_then b2 bq); clear hstay; have bw : Below B w ws := ((b2.mono hB).trans (bq.mono hBW)).trans bx; have noz := hnk))
    all_goals
      go_wp2_with fail
      go_meet
      have al := (Below.refl ws.heap.size ws).alloc (Nat.le_refl _) (.cells #[.int .i64 cap, .slice ka' n' kc', .slice sa' sl' sc'] 30)
      first
      | exact ⟨ws.heap.size, ka', n', kc', sa', sl', sc', ks', s', rs', p, F, E, rfl, rfl, rfl, rfl, Ne.symm (Nat.ne_of_lt (Array.getElem?_eq_some_iff.1 gr2).1), (al.block gr (Array.getElem?_eq_some_iff.1 gr2).1).trans gr2, heap_alloc_new _ _, Hx.mono al, Ho.mono al, bw.trans (al.mono (Nat.le_trans hB HTW.size)), HTW.next_below al, HO.out, HST.next_below al⟩
      | exact ⟨W1.heap.size, ka', n', kc', sa', sl', sc', ks', s', rs', p, F, E, rfl, rfl, rfl, rfl, Ne.symm (Nat.ne_of_lt grl), (three_other _ _ _ _ _ _ (Nat.ne_of_lt grl)).trans gr2, three_rowU _ _ _ _ _ _ _ _ _ gz, Hx.offrec gz (noU8_rec gz fun v hv m => by simp at hv; rcases hv with rfl | rfl | rfl <;> simp) (by decide) (by decide) (three_size _ _ _ _ _) (fun b hb => three_other _ _ _ _ _ _ hb), Ho.offrec gz (noU8_rec gz fun v hv m => by simp at hv; rcases hv with rfl | rfl | rfl <;> simp) (by decide) (by decide) (three_size _ _ _ _ _) (fun b hb => three_other _ _ _ _ _ _ hb), three_below bw (Nat.le_trans hBW (Nat.le_refl _)) _ _ _, HTW.store b2.size gz (noU8_rec gz fun v hv m => by simp at hv; rcases hv with rfl | rfl | rfl <;> simp) (by decide) (by decide) (three_size _ _ _ _ _) (fun b hb => three_other _ _ _ _ _ _ hb), HO.out, HST.next fun h => three_below h b2.size _ _ _⟩
      | exact ⟨wk.heap.size, ka', n', kc', sa', sl', sc', ks', s', rs', p, F, E, rfl, rfl, rfl, rfl, Ne.symm (Nat.ne_of_lt (Nat.lt_of_lt_of_le grl bq.size)), (three_other _ _ _ _ _ _ (Nat.ne_of_lt (Nat.lt_of_lt_of_le grl bq.size))).trans gr2, three_rowU _ _ _ _ _ _ _ _ _ gz, Hx.offrec gz (noU8_rec gz fun v hv m => by simp at hv; rcases hv with rfl | rfl | rfl <;> simp) (by decide) (by decide) (three_size _ _ _ _ _) (fun b hb => three_other _ _ _ _ _ _ hb), Ho.offrec gz (noU8_rec gz fun v hv m => by simp at hv; rcases hv with rfl | rfl | rfl <;> simp) (by decide) (by decide) (three_size _ _ _ _ _) (fun b hb => three_other _ _ _ _ _ _ hb), three_below bw (Nat.le_trans hBW bq.size) _ _ _, HTW.store (Nat.le_trans b2.size bq.size) gz (noU8_rec gz fun v hv m => by simp at hv; rcases hv with rfl | rfl | rfl <;> simp) (by decide) (by decide) (three_size _ _ _ _ _) (fun b hb => three_other _ _ _ _ _ _ hb), HO.out, HST.next fun h => three_below h (Nat.le_trans b2.size bq.size) _ _ _⟩
  case rest =>
    clear h h1 hnd' hBW
    obtain ⟨gx, ka', n', kc', sa', sl', sc', ks', s', rs', p, F, E, rfl, rfl, rfl, rfl, hx1, pr, px, Hx, Ho, bw, HT, hout, hst⟩ := hcut
    have HO := Lib.hid hout
    have HST := Lib.hid hst
    clear hout hst
    have k0 := cell_of_row _ _ 0 _ _ _ pr
    have k1 := cell_of_row _ _ 1 _ _ _ pr
    have k2 := cell_of_row _ _ 2 _ _ _ pr
    simp only [List.getElem?_toArray, List.getElem?_cons_zero, List.getElem?_cons_succ] at k0 k1 k2
    have f0 := frozen_of_row wc _ 0 _ _ pr
    have f1 := frozen_of_row wc _ 1 _ _ pr
    have f2 := frozen_of_row wc _ 2 _ _ pr
    go_wp2_with (first | (refine wpList_load_row rfl 30 _ rfl gx rfl 30 _ _ _ px Try.underlying30 rfl (by kernel_rfl) ?_) | fail)
    have gF := three_rowU wc gr (.int .i64 cap) (.slice ka' n' kc') (.slice sa' sl' sc') _ _ _ _ pr
    have q0 := cell_of_row _ _ 0 _ _ _ gF
    have q1 := cell_of_row _ _ 1 _ _ _ gF
    have q2 := cell_of_row _ _ 2 _ _ _ gF
    simp only [List.getElem?_toArray, List.getElem?_cons_zero, List.getElem?_cons_succ] at q0 q1 q2
    have hno : NoU8 wc gr := noU8_rec pr fun v hv m => by simp at hv; rcases hv with rfl | rfl | rfl <;> simp
    exact bodyPost_ret (v := .tuple #[.agg #[.int .i64 cap, .slice ka' n' kc', .slice sa' sl' sc'], .int .i64 (p : Nat), .bool F, .int .i64 E]) (by simp [results, Try.results8, go_sem, q0, q1, q2]) rfl ⟨ka', n', kc', sa', sl', sc', ks', s', rs', p, F, E, rfl, Hx.offrec pr hno (by decide) (by decide) (three_size _ _ _ _ _) (fun b hb => three_other _ _ _ _ _ _ hb), Ho.offrec pr hno (by decide) (by decide) (three_size _ _ _ _ _) (fun b hb => three_other _ _ _ _ _ _ hb), three_below bw hgrB _ _ _, HT.store hgw pr hno (by decide) (by decide) (three_size _ _ _ _ _) (fun b hb => three_other _ _ _ _ _ _ hb), HO.out, HST.out.next fun h => three_below h hgw _ _ _⟩
end Go.Proofs.Ytoffcpfebghdnaa
