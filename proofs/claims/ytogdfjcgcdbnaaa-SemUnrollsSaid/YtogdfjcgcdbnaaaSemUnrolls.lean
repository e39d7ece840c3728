/- SemUnrolls returns true (by gen17r.py). -/
import Derived.Test.YtogdfjcgcdbnaaaSemU
import Derived.Deep.RegionHeld3
namespace Go.Proofs.Ytogdfjcgcdbnaaa
open Go.RowKit
set_option linter.unusedVariables false
set_option linter.unusedSimpArgs false
theorem heap2 (w : World) (A B : Array Value) (t u : TypeId) : ((w.alloc (.cells A t)).alloc (.cells B u)).heap[w.heap.size]? = some (.cells A t (0, 0)) ∧ ((w.alloc (.cells A t)).alloc (.cells B u)).heap[w.heap.size + 1]? = some (.cells B u (0, 0)) ∧ Below w.heap.size w ((w.alloc (.cells A t)).alloc (.cells B u)) := by
  refine ⟨(Below.heap_alloc _ _ _ (by simp)).trans (heap_alloc_new _ _), ?_, ((Below.refl _ _).alloc (Nat.le_refl _) _).alloc (by simp) _⟩
  have h := heap_alloc_new (w.alloc (.cells A t)) (.cells B u)
  rw [World.size_alloc] at h
  exact h
theorem size_drew (w : World) : w.drew.heap.size = w.heap.size := rfl
theorem box_new {w2 w : World} (h : Below w2.heap.size w2 w) (r : Array Value) (t : TypeId) : w2.heap.size ≤ w.heap.size ∧ (w.alloc (.cells r t)).heap[w.heap.size]? = some (.cells r t (0, 0)) := ⟨h.size, heap_alloc_new _ _⟩
set_option maxRecDepth 100000 in
set_option maxHeartbeats 8000000 in
theorem semunrolls_any (w : World) (ta : T) (va : Value) (wa : Option Addr) (wn wk : Nat) (L : Int) (row : Nat → List Int) (hta : TreeAt w ta va) (hr : WordAt w wa wn row) (hnb : wn ≤ 9223372036854775807) (hwk : wn ≤ wk) (hkb : wk ≤ 9223372036854775807) :
    Calls Try.prog 3 #[va, .agg #[.slice wa wn wk, .int .i64 L]] w fun e w' => e = .returned (.bool true) ∧ Below w.heap.size w w' := by
  obtain ⟨oa, na, qa, aa, la, ca, rfl⟩ := hta.shape
  obtain ⟨pa, pw, bt⟩ := heap2 w #[.int .i64 oa, .int .i64 na, .int .i64 qa, .slice aa la ca] #[.slice wa wn wk, .int .i64 L] 24 27
  go_enter Try.func3, Try.ntmps3
  go_upto_region 1 with fail
  obtain ⟨v, hv⟩ : ∃ v, ((w.alloc (.cells #[.int .i64 oa, .int .i64 na, .int .i64 qa, .slice aa la ca] 24)).alloc (.cells #[.slice wa wn wk, .int .i64 L] 27)) = v := ⟨_, rfl⟩
  rw [hv] at pa pw bt ⊢
  obtain ⟨gw, hgw⟩ : ∃ g, w.heap.size + 1 = g := ⟨_, rfl⟩
  rw [hgw] at pw ⊢
  obtain ⟨ga, hga⟩ : ∃ g, w.heap.size = g := ⟨_, rfl⟩
  rw [hga] at pa ⊢
  clear hga hgw hv
  have ca0 : v.cell? ⟨ga, 0, none⟩ = some (.int .i64 oa) := cell_of_row _ _ 0 _ _ _ pa
  have ca1 : v.cell? ⟨ga, 1, none⟩ = some (.int .i64 na) := cell_of_row _ _ 1 _ _ _ pa
  have ca2 : v.cell? ⟨ga, 2, none⟩ = some (.int .i64 qa) := cell_of_row _ _ 2 _ _ _ pa
  have ca3 : v.cell? ⟨ga, 3, none⟩ = some (.slice aa la ca) := cell_of_row _ _ 3 _ _ _ pa
  have cw0 : v.cell? ⟨gw, 0, none⟩ = some (.slice wa wn wk) := cell_of_row _ _ 0 _ _ _ pw
  have cw1 : v.cell? ⟨gw, 1, none⟩ = some (.int .i64 L) := cell_of_row _ _ 1 _ _ _ pw
  go_wp2_with fail
  refine (shown_any _).mono ?_
  rintro e w1 ⟨rfl, b1⟩
  clear ca0 ca1 ca2 ca3 cw0 cw1
  replace pa := (b1.block ga (Array.getElem?_eq_some_iff.1 pa).1).trans pa
  replace pw := (b1.block gw (Array.getElem?_eq_some_iff.1 pw).1).trans pw
  replace bt := below_then bt b1
  have ca0 : w1.cell? ⟨ga, 0, none⟩ = some (.int .i64 oa) := cell_of_row _ _ 0 _ _ _ pa
  have ca1 : w1.cell? ⟨ga, 1, none⟩ = some (.int .i64 na) := cell_of_row _ _ 1 _ _ _ pa
  have ca2 : w1.cell? ⟨ga, 2, none⟩ = some (.int .i64 qa) := cell_of_row _ _ 2 _ _ _ pa
  have ca3 : w1.cell? ⟨ga, 3, none⟩ = some (.slice aa la ca) := cell_of_row _ _ 3 _ _ _ pa
  have cw0 : w1.cell? ⟨gw, 0, none⟩ = some (.slice wa wn wk) := cell_of_row _ _ 0 _ _ _ pw
  have cw1 : w1.cell? ⟨gw, 1, none⟩ = some (.int .i64 L) := cell_of_row _ _ 1 _ _ _ pw
  by_cases h12 : 12 < wn
  · have f1 : decide (12 < wn) = true := by simpa using h12
    have f2 : decide ((12 : Int) < (wn : Int)) = true := by simp; omega
    go_wp2_with fail
    go_ret
    exact ⟨rfl, bt⟩
  have f1 : decide (12 < wn) = false := by simpa using h12
  have f2 : decide ((12 : Int) < (wn : Int)) = false := by simp; omega
  go_wp2_with fail
  refine (fewW_any _ wa wn wk L row (hr.mono bt) (by omega)).mono ?_
  rintro e w2 ⟨⟨FW, rfl⟩, b2⟩
  clear ca0 ca1 ca2 ca3 cw0 cw1
  replace pa := (b2.block ga (Array.getElem?_eq_some_iff.1 pa).1).trans pa
  replace pw := (b2.block gw (Array.getElem?_eq_some_iff.1 pw).1).trans pw
  replace bt := below_then bt b2
  have ca0 : w2.cell? ⟨ga, 0, none⟩ = some (.int .i64 oa) := cell_of_row _ _ 0 _ _ _ pa
  have ca1 : w2.cell? ⟨ga, 1, none⟩ = some (.int .i64 na) := cell_of_row _ _ 1 _ _ _ pa
  have ca2 : w2.cell? ⟨ga, 2, none⟩ = some (.int .i64 qa) := cell_of_row _ _ 2 _ _ _ pa
  have ca3 : w2.cell? ⟨ga, 3, none⟩ = some (.slice aa la ca) := cell_of_row _ _ 3 _ _ _ pa
  have cw0 : w2.cell? ⟨gw, 0, none⟩ = some (.slice wa wn wk) := cell_of_row _ _ 0 _ _ _ pw
  have cw1 : w2.cell? ⟨gw, 1, none⟩ = some (.int .i64 L) := cell_of_row _ _ 1 _ _ _ pw
  cases FW with
  | false =>
    go_wp2_with fail
    go_ret
    exact ⟨rfl, bt⟩
  | true =>
  go_wp2_with fail
  refine (refRight_any _ wa wn wk L hnb).mono ?_
  rintro e w3 ⟨rfl, b3⟩
  clear ca0 ca1 ca2 ca3 cw0 cw1
  replace pa := (b3.block ga (Array.getElem?_eq_some_iff.1 pa).1).trans pa
  replace pw := (b3.block gw (Array.getElem?_eq_some_iff.1 pw).1).trans pw
  replace bt := below_then bt b3
  have ca0 : w3.cell? ⟨ga, 0, none⟩ = some (.int .i64 oa) := cell_of_row _ _ 0 _ _ _ pa
  have ca1 : w3.cell? ⟨ga, 1, none⟩ = some (.int .i64 na) := cell_of_row _ _ 1 _ _ _ pa
  have ca2 : w3.cell? ⟨ga, 2, none⟩ = some (.int .i64 qa) := cell_of_row _ _ 2 _ _ _ pa
  have ca3 : w3.cell? ⟨ga, 3, none⟩ = some (.slice aa la ca) := cell_of_row _ _ 3 _ _ _ pa
  have cw0 : w3.cell? ⟨gw, 0, none⟩ = some (.slice wa wn wk) := cell_of_row _ _ 0 _ _ _ pw
  have cw1 : w3.cell? ⟨gw, 1, none⟩ = some (.int .i64 L) := cell_of_row _ _ 1 _ _ _ pw
  by_cases hR : 1 ≤ wn ∧ 0 ≤ L ∧ L < wn
  case neg =>
    rw [decide_eq_false hR]
    go_wp2_with fail
    go_ret
    exact ⟨rfl, bt⟩
  rw [decide_eq_true hR]
  obtain ⟨hw1, hL0, hLn⟩ := hR
  obtain ⟨l, rfl⟩ : ∃ l : Nat, L = (l : Int) := ⟨L.toNat, by omega⟩
  have hl : l < wn := by omega
  clear hL0 hLn
  go_wp2_with fail
  refine (formula_any _ ta _ 3 (hta.mono bt) (by decide)).mono ?_
  rintro e w4 ⟨⟨BA, rfl, hBA⟩, b4⟩
  clear ca0 ca1 ca2 ca3 cw0 cw1
  replace pa := (b4.block ga (Array.getElem?_eq_some_iff.1 pa).1).trans pa
  replace pw := (b4.block gw (Array.getElem?_eq_some_iff.1 pw).1).trans pw
  replace bt := below_then bt b4
  have ca0 : w4.cell? ⟨ga, 0, none⟩ = some (.int .i64 oa) := cell_of_row _ _ 0 _ _ _ pa
  have ca1 : w4.cell? ⟨ga, 1, none⟩ = some (.int .i64 na) := cell_of_row _ _ 1 _ _ _ pa
  have ca2 : w4.cell? ⟨ga, 2, none⟩ = some (.int .i64 qa) := cell_of_row _ _ 2 _ _ _ pa
  have ca3 : w4.cell? ⟨ga, 3, none⟩ = some (.slice aa la ca) := cell_of_row _ _ 3 _ _ _ pa
  have cw0 : w4.cell? ⟨gw, 0, none⟩ = some (.slice wa wn wk) := cell_of_row _ _ 0 _ _ _ pw
  have cw1 : w4.cell? ⟨gw, 1, none⟩ = some (.int .i64 (l : Nat)) := cell_of_row _ _ 1 _ _ _ pw
  cases BA with
  | false =>
    go_wp2_with fail
    go_ret
    exact ⟨rfl, bt⟩
  | true =>
  have HFA := Lib.hid (hBA rfl)
  clear hBA f1 f2
  have hwn : wn ≤ 12 := by omega
  have HR := Lib.hid hr
  have HWK := Lib.hid hkb
  obtain ⟨b, off, vals, rfl, hblt, hvl, hvc, hvr⟩ := (hr.mono bt).vals hw1
  obtain ⟨lv, hlv⟩ : ∃ u, vals[l]? = some u := ⟨vals[l]'(by omega), List.getElem?_eq_getElem _⟩
  obtain ⟨ra, rl, rc, rfl, _⟩ := hvr l _ hlv
  have clv := hvc l _ hlv
  have HX := Lib.hid h12
  clear hr h12 hnb hkb
  go_upto_region 5 with fail
  obtain ⟨N, hN⟩ : ∃ N, wn + (wn - l) = N := ⟨_, rfl⟩
  go_cut [7] from 38 to 49 (fun v7 w' => ∃ (gx g c : Nat), v7 = .pointer (some ⟨gx, 0, none⟩) ∧ w4.heap.size ≤ gx ∧ w'.heap[gx]? = some (.cells #[.slice (some ⟨g, 0, none⟩) N c, .int .i64 (wn : Nat)] 27 (0, 0)) ∧ WordAt w' (some ⟨g, 0, none⟩) N (fun i => row (fold wn l i)) ∧ Below w4.heap.size w4 w')
  case first =>
    subst hN
    have hkb := HWK.out
    have hsrc : ∀ w' : World, Below w4.heap.size w4 w' → ∀ (j : Nat) (u : Value), vals[j]? = some u → w'.cell? ((⟨b, off, none⟩ : Addr).add j) = some u := fun w' hb' j u hj => by
      rw [Addr.add_lit]
      exact (hb'.cell (p := ⟨b, off + j, none⟩) hblt).trans (hvc j u hj)
    have hsrc2 : ∀ w' : World, Below w4.heap.size w4 w' → ∀ (j : Nat) (u : Value), (vals.drop l)[j]? = some u → w'.cell? ((⟨b, off + l, none⟩ : Addr).add j) = some u := fun w' hb' j u hj => by
      rw [List.getElem?_drop] at hj
      rw [Addr.add_lit, Nat.add_assoc]
      exact (hb'.cell (p := ⟨b, off + (l + j), none⟩) hblt).trans (hvc _ u hj)
    have hle : l ≤ wn := by omega
    have hne0 : ¬ wk = l := by omega
    refine wp_region_noPanic ?_
    have s0 := cw0
    have s1 := cw1
    refine wp_region_held_drew (S := fun w' => w'.cell? ⟨gw, 0, none⟩ = some (.slice (some ⟨b, off, none⟩) wn wk) ∧ w'.cell? ⟨gw, 1, none⟩ = some (.int .i64 (l : Nat))) (by kernel_rfl) ⟨s0, s1⟩ (fun hHeld => ?_)
    have BL := bel_drew (Below.refl w4.heap.size w4)
    refine wpAnyH_take (i := 1) (v := ?_) rfl (by kernel_rfl) (by kernel_rfl) (by kernel_rfl) (fun _ _ _ h => h) (Or.inl ⟨by rfl, ?_⟩) (by assumption) ?_
    rotate_left
    · (intro wq hSw; (try dsimp only at hSw); go_simp; (try rw [if_pos hle, if_neg hne0]); try with_reducible rfl)
    try simp only [Act.put, List.setIfInBounds_toArray, List.set_cons_zero, List.set_cons_succ]
    refine wpAnyH_take (i := 2) (v := ?_) rfl (by kernel_rfl) (by kernel_rfl) (by kernel_rfl) (fun _ _ _ h => h) (Or.inl ⟨by rfl, ?_⟩) (by assumption) ?_
    rotate_left
    · (intro wq hSw; (try dsimp only at hSw); go_simp; (try rw [if_pos hle, if_neg hne0]); try with_reducible rfl)
    try simp only [Act.put, List.setIfInBounds_toArray, List.set_cons_zero, List.set_cons_succ]
    refine wpAnyH_take (i := 4) (v := ?_) rfl (by kernel_rfl) (by kernel_rfl) (by kernel_rfl) (fun _ _ _ h => h) (Or.inl ⟨by rfl, ?_⟩) (by assumption) ?_
    rotate_left
    · (intro wq hSw; (try dsimp only at hSw); go_simp; (try rw [if_pos hle, if_neg hne0]); try with_reducible rfl)
    try simp only [Act.put, List.setIfInBounds_toArray, List.set_cons_zero, List.set_cons_succ]
    refine wpAnyH_take (i := 5) (v := ?_) rfl (by kernel_rfl) (by kernel_rfl) (by kernel_rfl) (fun _ _ _ h => h) (Or.inl ⟨by rfl, ?_⟩) (by assumption) ?_
    rotate_left
    · (intro wq hSw; (try dsimp only at hSw); go_simp; (try rw [if_pos hle, if_neg hne0]); try with_reducible rfl)
    try simp only [Act.put, List.setIfInBounds_toArray, List.set_cons_zero, List.set_cons_succ]
    refine wpAnyH_take (i := 6) (v := ?_) rfl (by kernel_rfl) (by kernel_rfl) (by kernel_rfl) (fun _ _ _ h => h) (Or.inl ⟨by rfl, ?_⟩) (by assumption) ?_
    rotate_left
    · (intro wq hSw; (try dsimp only at hSw); go_simp; (try rw [if_pos hle, if_neg hne0]); try with_reducible rfl)
    try simp only [Act.put, List.setIfInBounds_toArray, List.set_cons_zero, List.set_cons_succ]
    refine wpAnyH_take (i := 7) (v := ?_) rfl (by kernel_rfl) (by kernel_rfl) (by kernel_rfl) (fun _ _ _ h => h) (Or.inl ⟨by rfl, ?_⟩) (by assumption) ?_
    rotate_left
    · (intro wq hSw; (try dsimp only at hSw); go_simp; (try rw [if_pos hle, if_neg hne0]); try with_reducible rfl)
    try simp only [Act.put, List.setIfInBounds_toArray, List.set_cons_zero, List.set_cons_succ]
    refine wpAnyH_take (i := 8) (v := ?_) rfl (by kernel_rfl) (by kernel_rfl) (by kernel_rfl) (fun _ _ _ h => h) (Or.inl ⟨by rfl, ?_⟩) (by assumption) ?_
    rotate_left
    · (intro wq hSw; (try dsimp only at hSw); go_simp; (try rw [if_pos hle, if_neg hne0]); try with_reducible rfl)
    try simp only [Act.put, List.setIfInBounds_toArray, List.set_cons_zero, List.set_cons_succ]
    refine wpAnyH_take (i := 10) (v := ?_) rfl (by kernel_rfl) (by kernel_rfl) (by kernel_rfl) (fun _ _ _ h => h) (Or.inl ⟨by rfl, ?_⟩) (by assumption) ?_
    rotate_left
    · (intro wq hSw; (try dsimp only at hSw); go_simp; (try rw [if_pos hle, if_neg hne0]); try with_reducible rfl)
    try simp only [Act.put, List.setIfInBounds_toArray, List.set_cons_zero, List.set_cons_succ]
    refine wpAnyH_ready (rs := [0, 12]) (by kernel_rfl) (by simp) ?_
    refine AllReadyH.cons rfl (fun K hK => ?_) (AllReadyH.cons rfl (fun K hK => ?_) (AllReadyH.nil))
    · skip
      go_simp
      have BL := bel_alloc BL (.cells #[] 31)
      refine hK.out _ _ ⟨(BL.cell (p := ⟨gw, 0, none⟩) (cell_lt s0)).trans s0, (BL.cell (p := ⟨gw, 1, none⟩) (cell_lt s1)).trans s1⟩ (fun hHeld => ?_)
      clear hK K
      try simp only [Act.put, List.setIfInBounds_toArray, List.set_cons_zero, List.set_cons_succ]
      refine wpAnyH_ready (rs := [3, 12]) (by kernel_rfl) (by simp) ?_
      refine AllReadyH.cons rfl (fun K hK => ?_) (AllReadyH.cons rfl (fun K hK => ?_) (AllReadyH.nil))
      · skip
        refine step_append_fresh rfl (.tmp 38) (.tmp 40) 25 31 rfl Try.underlying25 (.slice none 0 0) 24 Try.info_rowI rfl _ (by rfl) _ wn wk hw1 vals (by rfl) hvl (hsrc _ BL) (by unfold maxLen; omega) (by omega) ?_
        intro vO wO O atO BN
        change K (Act.put _ (some 41) vO) _
        have O := own_low O BL.size
        have BL := below_then BL BN
        refine hK.out _ _ ⟨(BL.cell (p := ⟨gw, 0, none⟩) (cell_lt s0)).trans s0, (BL.cell (p := ⟨gw, 1, none⟩) (cell_lt s1)).trans s1⟩ (fun hHeld => ?_)
        clear hK K
        try simp only [Act.put, List.setIfInBounds_toArray, List.set_cons_zero, List.set_cons_succ]
        refine wpAnyH_ready (rs := [9, 12]) (by kernel_rfl) (by simp) ?_
        refine AllReadyH.cons rfl (fun K hK => ?_) (AllReadyH.cons rfl (fun K hK => ?_) (AllReadyH.nil))
        · skip
          refine step_append_own rfl (.tmp 41) (.tmp 46) 25 31 rfl Try.underlying25 (.slice none 0 0) 24 Try.info_rowI rfl w4.heap.size vO wn vals (by rfl) O _ (wn - l) _ (vals.drop l) (by rfl) (by rw [List.length_drop, hvl]) (hsrc2 _ BL) (fun u hu => hvr.one u (List.mem_of_mem_drop hu)) (by unfold maxLen; omega) (by omega) BL.size ?_
          intro vQ wQ Q GQ
          change K (Act.put _ (some 47) vQ) _
          have BL := BL.grown GQ BL.size (fun k hk => (O.lt k hk).1)
          obtain ⟨g1, c1, rfl, hg1, hg1l⟩ := own_shape Q (by omega)
          refine hK.out _ _ ⟨(BL.cell (p := ⟨gw, 0, none⟩) (cell_lt s0)).trans s0, (BL.cell (p := ⟨gw, 1, none⟩) (cell_lt s1)).trans s1⟩ (fun hHeld => ?_)
          clear hK K
          try simp only [Act.put, List.setIfInBounds_toArray, List.set_cons_zero, List.set_cons_succ]
          refine wpAnyH_take (i := 11) (v := ?_) rfl (by kernel_rfl) (by kernel_rfl) (by kernel_rfl) (fun _ _ _ h => h) (Or.inl ⟨by rfl, ?_⟩) (by assumption) ?_
          rotate_left
          · (intro wq hSw; (try dsimp only at hSw); go_simp; (try rw [if_pos hle, if_neg hne0]); try with_reducible rfl)
          try simp only [Act.put, List.setIfInBounds_toArray, List.set_cons_zero, List.set_cons_succ]
          refine wpAnyH_ready (rs := [12]) (by kernel_rfl) (by simp) ?_
          refine AllReadyH.cons rfl (fun K hK => ?_) (AllReadyH.nil)
          go_simp
          have QQ := Q
          have BB := BL
          obtain ⟨hgBl, PB⟩ := box_new BL #[.slice none 0 0, .int .i64 0] 27
          try simp only [World.size_alloc, size_drew] at hgBl PB
          have BL := bel_alloc BL (.cells #[.slice none 0 0, .int .i64 0] 27)
          have Q := Q.alloc (.cells #[.slice none 0 0, .int .i64 0] 27)
          refine hK.out _ _ ⟨(BL.cell (p := ⟨gw, 0, none⟩) (cell_lt s0)).trans s0, (BL.cell (p := ⟨gw, 1, none⟩) (cell_lt s1)).trans s1⟩ (fun hHeld => ?_)
          clear hK K
          try simp only [Act.put, List.setIfInBounds_toArray, List.set_cons_zero, List.set_cons_succ]
          refine wpAnyH_ready (rs := [13]) (by kernel_rfl) (by simp) ?_
          refine AllReadyH.cons rfl (fun K hK => ?_) (AllReadyH.nil)
          have k0 := cell_of_row _ _ 0 _ _ _ PB
          have k1 := cell_of_row _ _ 1 _ _ _ PB
          simp only [List.getElem?_toArray, List.getElem?_cons_zero, List.getElem?_cons_succ] at k0 k1
          have f0 := frozen_of_row _ _ 0 _ _ PB
          have f1 := frozen_of_row _ _ 1 _ _ PB
          go_simp
          have BF := bel_alloc BB (.cells #[.slice (some ⟨g1, 0, none⟩) (wn + (wn - l)) c1, .int .i64 (wn : Nat)] 27)
          refine hK.out _ _ ⟨(BF.cell (p := ⟨gw, 0, none⟩) (cell_lt s0)).trans s0, (BF.cell (p := ⟨gw, 1, none⟩) (cell_lt s1)).trans s1⟩ (fun hHeld => ?_)
          clear hK K
          refine wpAnyH_done (by kernel_rfl) ?_ _
          refine NoPanic.normal ?_
          try simp only [List.getElem_toArray, List.getElem_cons_succ, List.getElem_cons_zero, Act.put, List.setIfInBounds_toArray, List.set_cons_zero, List.set_cons_succ]
          go_wp2_with fail
          go_meet
          exact ⟨_, g1, c1, rfl, hgBl, heap_alloc_new _ _, own_word QQ (Below.heap_alloc _ _ _ hg1l) ((hvr.twice hvl hl).mono BF), BF⟩
        · skip
          go_simp
          obtain ⟨hgBl, PB⟩ := box_new BL #[.slice none 0 0, .int .i64 0] 27
          try simp only [World.size_alloc, size_drew] at hgBl PB
          have BL := bel_alloc BL (.cells #[.slice none 0 0, .int .i64 0] 27)
          have O := O.alloc (.cells #[.slice none 0 0, .int .i64 0] 27)
          refine hK.out _ _ ⟨(BL.cell (p := ⟨gw, 0, none⟩) (cell_lt s0)).trans s0, (BL.cell (p := ⟨gw, 1, none⟩) (cell_lt s1)).trans s1⟩ (fun hHeld => ?_)
          clear hK K
          try simp only [Act.put, List.setIfInBounds_toArray, List.set_cons_zero, List.set_cons_succ]
          refine wpAnyH_ready (rs := [9]) (by kernel_rfl) (by simp) ?_
          refine AllReadyH.cons rfl (fun K hK => ?_) (AllReadyH.nil)
          refine step_append_own rfl (.tmp 41) (.tmp 46) 25 31 rfl Try.underlying25 (.slice none 0 0) 24 Try.info_rowI rfl w4.heap.size vO wn vals (by rfl) O _ (wn - l) _ (vals.drop l) (by rfl) (by rw [List.length_drop, hvl]) (hsrc2 _ BL) (fun u hu => hvr.one u (List.mem_of_mem_drop hu)) (by unfold maxLen; omega) (by omega) BL.size ?_
          intro vQ wQ Q GQ
          change K (Act.put _ (some 47) vQ) _
          have PB := (GQ.block _ (Array.getElem?_eq_some_iff.1 PB).1 (own_off O PB (by decide))).trans PB
          have BL := BL.grown GQ BL.size (fun k hk => (O.lt k hk).1)
          obtain ⟨g1, c1, rfl, hg1, hg1l⟩ := own_shape Q (by omega)
          refine hK.out _ _ ⟨(BL.cell (p := ⟨gw, 0, none⟩) (cell_lt s0)).trans s0, (BL.cell (p := ⟨gw, 1, none⟩) (cell_lt s1)).trans s1⟩ (fun hHeld => ?_)
          clear hK K
          try simp only [Act.put, List.setIfInBounds_toArray, List.set_cons_zero, List.set_cons_succ]
          refine wpAnyH_take (i := 11) (v := ?_) rfl (by kernel_rfl) (by kernel_rfl) (by kernel_rfl) (fun _ _ _ h => h) (Or.inl ⟨by rfl, ?_⟩) (by assumption) ?_
          rotate_left
          · (intro wq hSw; (try dsimp only at hSw); go_simp; (try rw [if_pos hle, if_neg hne0]); try with_reducible rfl)
          try simp only [Act.put, List.setIfInBounds_toArray, List.set_cons_zero, List.set_cons_succ]
          refine wpAnyH_ready (rs := [13]) (by kernel_rfl) (by simp) ?_
          refine AllReadyH.cons rfl (fun K hK => ?_) (AllReadyH.nil)
          have k0 := cell_of_row _ _ 0 _ _ _ PB
          have k1 := cell_of_row _ _ 1 _ _ _ PB
          simp only [List.getElem?_toArray, List.getElem?_cons_zero, List.getElem?_cons_succ] at k0 k1
          have f0 := frozen_of_row _ _ 0 _ _ PB
          have f1 := frozen_of_row _ _ 1 _ _ PB
          go_simp
          have BF := two_bel (.slice (some ⟨g1, 0, none⟩) (wn + (wn - l)) c1) (.int .i64 (wn : Nat)) BL hgBl
          refine hK.out _ _ ⟨(BF.cell (p := ⟨gw, 0, none⟩) (cell_lt s0)).trans s0, (BF.cell (p := ⟨gw, 1, none⟩) (cell_lt s1)).trans s1⟩ (fun hHeld => ?_)
          clear hK K
          refine wpAnyH_done (by kernel_rfl) ?_ _
          refine NoPanic.normal ?_
          try simp only [List.getElem_toArray, List.getElem_cons_succ, List.getElem_cons_zero, Act.put, List.setIfInBounds_toArray, List.set_cons_zero, List.set_cons_succ]
          go_wp2_with fail
          go_meet
          have hne : g1 ≠ _ := fun h => own_off Q PB (by decide) (congrArg some h.symm)
          exact ⟨_, g1, c1, rfl, hgBl, two_row _ _ _ _ PB, own_word Q (two_oth _ _ _ hne) ((hvr.twice hvl hl).mono BF), BF⟩
      · skip
        go_simp
        obtain ⟨hgBl, PB⟩ := box_new BL #[.slice none 0 0, .int .i64 0] 27
        try simp only [World.size_alloc, size_drew] at hgBl PB
        have BL := bel_alloc BL (.cells #[.slice none 0 0, .int .i64 0] 27)
        refine hK.out _ _ ⟨(BL.cell (p := ⟨gw, 0, none⟩) (cell_lt s0)).trans s0, (BL.cell (p := ⟨gw, 1, none⟩) (cell_lt s1)).trans s1⟩ (fun hHeld => ?_)
        clear hK K
        try simp only [Act.put, List.setIfInBounds_toArray, List.set_cons_zero, List.set_cons_succ]
        refine wpAnyH_ready (rs := [3]) (by kernel_rfl) (by simp) ?_
        refine AllReadyH.cons rfl (fun K hK => ?_) (AllReadyH.nil)
        refine step_append_fresh rfl (.tmp 38) (.tmp 40) 25 31 rfl Try.underlying25 (.slice none 0 0) 24 Try.info_rowI rfl _ (by rfl) _ wn wk hw1 vals (by rfl) hvl (hsrc _ BL) (by unfold maxLen; omega) (by omega) ?_
        intro vO wO O atO BN
        change K (Act.put _ (some 41) vO) _
        have O := own_low O BL.size
        have PB := row_bel BN PB
        have BL := below_then BL BN
        refine hK.out _ _ ⟨(BL.cell (p := ⟨gw, 0, none⟩) (cell_lt s0)).trans s0, (BL.cell (p := ⟨gw, 1, none⟩) (cell_lt s1)).trans s1⟩ (fun hHeld => ?_)
        clear hK K
        try simp only [Act.put, List.setIfInBounds_toArray, List.set_cons_zero, List.set_cons_succ]
        refine wpAnyH_ready (rs := [9]) (by kernel_rfl) (by simp) ?_
        refine AllReadyH.cons rfl (fun K hK => ?_) (AllReadyH.nil)
        refine step_append_own rfl (.tmp 41) (.tmp 46) 25 31 rfl Try.underlying25 (.slice none 0 0) 24 Try.info_rowI rfl w4.heap.size vO wn vals (by rfl) O _ (wn - l) _ (vals.drop l) (by rfl) (by rw [List.length_drop, hvl]) (hsrc2 _ BL) (fun u hu => hvr.one u (List.mem_of_mem_drop hu)) (by unfold maxLen; omega) (by omega) BL.size ?_
        intro vQ wQ Q GQ
        change K (Act.put _ (some 47) vQ) _
        have PB := (GQ.block _ (Array.getElem?_eq_some_iff.1 PB).1 (own_off O PB (by decide))).trans PB
        have BL := BL.grown GQ BL.size (fun k hk => (O.lt k hk).1)
        obtain ⟨g1, c1, rfl, hg1, hg1l⟩ := own_shape Q (by omega)
        refine hK.out _ _ ⟨(BL.cell (p := ⟨gw, 0, none⟩) (cell_lt s0)).trans s0, (BL.cell (p := ⟨gw, 1, none⟩) (cell_lt s1)).trans s1⟩ (fun hHeld => ?_)
        clear hK K
        try simp only [Act.put, List.setIfInBounds_toArray, List.set_cons_zero, List.set_cons_succ]
        refine wpAnyH_take (i := 11) (v := ?_) rfl (by kernel_rfl) (by kernel_rfl) (by kernel_rfl) (fun _ _ _ h => h) (Or.inl ⟨by rfl, ?_⟩) (by assumption) ?_
        rotate_left
        · (intro wq hSw; (try dsimp only at hSw); go_simp; (try rw [if_pos hle, if_neg hne0]); try with_reducible rfl)
        try simp only [Act.put, List.setIfInBounds_toArray, List.set_cons_zero, List.set_cons_succ]
        refine wpAnyH_ready (rs := [13]) (by kernel_rfl) (by simp) ?_
        refine AllReadyH.cons rfl (fun K hK => ?_) (AllReadyH.nil)
        have k0 := cell_of_row _ _ 0 _ _ _ PB
        have k1 := cell_of_row _ _ 1 _ _ _ PB
        simp only [List.getElem?_toArray, List.getElem?_cons_zero, List.getElem?_cons_succ] at k0 k1
        have f0 := frozen_of_row _ _ 0 _ _ PB
        have f1 := frozen_of_row _ _ 1 _ _ PB
        go_simp
        have BF := two_bel (.slice (some ⟨g1, 0, none⟩) (wn + (wn - l)) c1) (.int .i64 (wn : Nat)) BL hgBl
        refine hK.out _ _ ⟨(BF.cell (p := ⟨gw, 0, none⟩) (cell_lt s0)).trans s0, (BF.cell (p := ⟨gw, 1, none⟩) (cell_lt s1)).trans s1⟩ (fun hHeld => ?_)
        clear hK K
        refine wpAnyH_done (by kernel_rfl) ?_ _
        refine NoPanic.normal ?_
        try simp only [List.getElem_toArray, List.getElem_cons_succ, List.getElem_cons_zero, Act.put, List.setIfInBounds_toArray, List.set_cons_zero, List.set_cons_succ]
        go_wp2_with fail
        go_meet
        have hne : g1 ≠ _ := fun h => own_off Q PB (by decide) (congrArg some h.symm)
        exact ⟨_, g1, c1, rfl, hgBl, two_row _ _ _ _ PB, own_word Q (two_oth _ _ _ hne) ((hvr.twice hvl hl).mono BF), BF⟩
    · skip
      go_simp
      obtain ⟨hgBl, PB⟩ := box_new BL #[.slice none 0 0, .int .i64 0] 27
      try simp only [World.size_alloc, size_drew] at hgBl PB
      have BL := bel_alloc BL (.cells #[.slice none 0 0, .int .i64 0] 27)
      refine hK.out _ _ ⟨(BL.cell (p := ⟨gw, 0, none⟩) (cell_lt s0)).trans s0, (BL.cell (p := ⟨gw, 1, none⟩) (cell_lt s1)).trans s1⟩ (fun hHeld => ?_)
      clear hK K
      try simp only [Act.put, List.setIfInBounds_toArray, List.set_cons_zero, List.set_cons_succ]
      refine wpAnyH_ready (rs := [0]) (by kernel_rfl) (by simp) ?_
      refine AllReadyH.cons rfl (fun K hK => ?_) (AllReadyH.nil)
      go_simp
      have BL := bel_alloc BL (.cells #[] 31)
      have PB := row_alloc (.cells #[] 31) PB
      refine hK.out _ _ ⟨(BL.cell (p := ⟨gw, 0, none⟩) (cell_lt s0)).trans s0, (BL.cell (p := ⟨gw, 1, none⟩) (cell_lt s1)).trans s1⟩ (fun hHeld => ?_)
      clear hK K
      try simp only [Act.put, List.setIfInBounds_toArray, List.set_cons_zero, List.set_cons_succ]
      refine wpAnyH_ready (rs := [3]) (by kernel_rfl) (by simp) ?_
      refine AllReadyH.cons rfl (fun K hK => ?_) (AllReadyH.nil)
      refine step_append_fresh rfl (.tmp 38) (.tmp 40) 25 31 rfl Try.underlying25 (.slice none 0 0) 24 Try.info_rowI rfl _ (by rfl) _ wn wk hw1 vals (by rfl) hvl (hsrc _ BL) (by unfold maxLen; omega) (by omega) ?_
      intro vO wO O atO BN
      change K (Act.put _ (some 41) vO) _
      have O := own_low O BL.size
      have PB := row_bel BN PB
      have BL := below_then BL BN
      refine hK.out _ _ ⟨(BL.cell (p := ⟨gw, 0, none⟩) (cell_lt s0)).trans s0, (BL.cell (p := ⟨gw, 1, none⟩) (cell_lt s1)).trans s1⟩ (fun hHeld => ?_)
      clear hK K
      try simp only [Act.put, List.setIfInBounds_toArray, List.set_cons_zero, List.set_cons_succ]
      refine wpAnyH_ready (rs := [9]) (by kernel_rfl) (by simp) ?_
      refine AllReadyH.cons rfl (fun K hK => ?_) (AllReadyH.nil)
      refine step_append_own rfl (.tmp 41) (.tmp 46) 25 31 rfl Try.underlying25 (.slice none 0 0) 24 Try.info_rowI rfl w4.heap.size vO wn vals (by rfl) O _ (wn - l) _ (vals.drop l) (by rfl) (by rw [List.length_drop, hvl]) (hsrc2 _ BL) (fun u hu => hvr.one u (List.mem_of_mem_drop hu)) (by unfold maxLen; omega) (by omega) BL.size ?_
      intro vQ wQ Q GQ
      change K (Act.put _ (some 47) vQ) _
      have PB := (GQ.block _ (Array.getElem?_eq_some_iff.1 PB).1 (own_off O PB (by decide))).trans PB
      have BL := BL.grown GQ BL.size (fun k hk => (O.lt k hk).1)
      obtain ⟨g1, c1, rfl, hg1, hg1l⟩ := own_shape Q (by omega)
      refine hK.out _ _ ⟨(BL.cell (p := ⟨gw, 0, none⟩) (cell_lt s0)).trans s0, (BL.cell (p := ⟨gw, 1, none⟩) (cell_lt s1)).trans s1⟩ (fun hHeld => ?_)
      clear hK K
      try simp only [Act.put, List.setIfInBounds_toArray, List.set_cons_zero, List.set_cons_succ]
      refine wpAnyH_take (i := 11) (v := ?_) rfl (by kernel_rfl) (by kernel_rfl) (by kernel_rfl) (fun _ _ _ h => h) (Or.inl ⟨by rfl, ?_⟩) (by assumption) ?_
      rotate_left
      · (intro wq hSw; (try dsimp only at hSw); go_simp; (try rw [if_pos hle, if_neg hne0]); try with_reducible rfl)
      try simp only [Act.put, List.setIfInBounds_toArray, List.set_cons_zero, List.set_cons_succ]
      refine wpAnyH_ready (rs := [13]) (by kernel_rfl) (by simp) ?_
      refine AllReadyH.cons rfl (fun K hK => ?_) (AllReadyH.nil)
      have k0 := cell_of_row _ _ 0 _ _ _ PB
      have k1 := cell_of_row _ _ 1 _ _ _ PB
      simp only [List.getElem?_toArray, List.getElem?_cons_zero, List.getElem?_cons_succ] at k0 k1
      have f0 := frozen_of_row _ _ 0 _ _ PB
      have f1 := frozen_of_row _ _ 1 _ _ PB
      go_simp
      have BF := two_bel (.slice (some ⟨g1, 0, none⟩) (wn + (wn - l)) c1) (.int .i64 (wn : Nat)) BL hgBl
      refine hK.out _ _ ⟨(BF.cell (p := ⟨gw, 0, none⟩) (cell_lt s0)).trans s0, (BF.cell (p := ⟨gw, 1, none⟩) (cell_lt s1)).trans s1⟩ (fun hHeld => ?_)
      clear hK K
      refine wpAnyH_done (by kernel_rfl) ?_ _
      refine NoPanic.normal ?_
      try simp only [List.getElem_toArray, List.getElem_cons_succ, List.getElem_cons_zero, Act.put, List.setIfInBounds_toArray, List.set_cons_zero, List.set_cons_succ]
      go_wp2_with fail
      go_meet
      have hne : g1 ≠ _ := fun h => own_off Q PB (by decide) (congrArg some h.symm)
      exact ⟨_, g1, c1, rfl, hgBl, two_row _ _ _ _ PB, own_word Q (two_oth _ _ _ hne) ((hvr.twice hvl hl).mono BF), BF⟩
  case rest =>
    obtain ⟨gx, g1, c1, rfl, hgx, px, hWx, b5⟩ := hcut
    obtain ⟨w5, hws⟩ : ∃ x, x = wc := ⟨_, rfl⟩
    subst hws
    clear ca0 ca1 ca2 ca3 cw0 cw1
    replace pa := (b5.block ga (Array.getElem?_eq_some_iff.1 pa).1).trans pa
    replace pw := (b5.block gw (Array.getElem?_eq_some_iff.1 pw).1).trans pw
    replace bt := below_then bt b5
    have ca0 : w5.cell? ⟨ga, 0, none⟩ = some (.int .i64 oa) := cell_of_row _ _ 0 _ _ _ pa
    have ca1 : w5.cell? ⟨ga, 1, none⟩ = some (.int .i64 na) := cell_of_row _ _ 1 _ _ _ pa
    have ca2 : w5.cell? ⟨ga, 2, none⟩ = some (.int .i64 qa) := cell_of_row _ _ 2 _ _ _ pa
    have ca3 : w5.cell? ⟨ga, 3, none⟩ = some (.slice aa la ca) := cell_of_row _ _ 3 _ _ _ pa
    have cw0 : w5.cell? ⟨gw, 0, none⟩ = some (.slice (some ⟨b, off, none⟩) wn wk) := cell_of_row _ _ 0 _ _ _ pw
    have cw1 : w5.cell? ⟨gw, 1, none⟩ = some (.int .i64 (l : Nat)) := cell_of_row _ _ 1 _ _ _ pw
    have cx0 : w5.cell? ⟨gx, 0, none⟩ = some (.slice (some ⟨g1, 0, none⟩) N c1) := cell_of_row _ _ 0 _ _ _ px
    have cx1 : w5.cell? ⟨gx, 1, none⟩ = some (.int .i64 (wn : Nat)) := cell_of_row _ _ 1 _ _ _ px
    replace hvc : ∀ (j : Nat) (u : Value), vals[j]? = some u → w5.cell? ⟨b, off + j, none⟩ = some u := fun j u hj => (b5.cell (p := ⟨b, off + j, none⟩) hblt).trans (hvc j u hj)
    replace hblt : b < w5.heap.size := Nat.lt_of_lt_of_le hblt b5.size
    replace hvr := hvr.mono b5
    replace clv := hvc l _ hlv
    go_upto_region 6 with fail
    go_cut [8] from 50 to 65 (fun v8 w' => ∃ (gx g c : Nat), v8 = .pointer (some ⟨gx, 0, none⟩) ∧ w5.heap.size ≤ gx ∧ w'.heap[gx]? = some (.cells #[.slice (some ⟨g, 0, none⟩) (wn + 1) c, .int .i64 ((l : Int) + 1)] 27 (0, 0)) ∧ WordAt w' (some ⟨g, 0, none⟩) (wn + 1) (fun i => row (fold wn l i)) ∧ Below w5.heap.size w5 w')
    case first =>
      have hkb := HWK.out
      have hsrc : ∀ w' : World, Below w5.heap.size w5 w' → ∀ (j : Nat) (u : Value), vals[j]? = some u → w'.cell? ((⟨b, off, none⟩ : Addr).add j) = some u := fun w' hb' j u hj => by
        rw [Addr.add_lit]
        exact (hb'.cell (p := ⟨b, off + j, none⟩) hblt).trans (hvc j u hj)
      have hlw : decide (l < wn) = true := by simpa using hl
      have hwrap : IntKind.i64.wrap ((l : Int) + 1) = (l : Int) + 1 := IntWalk.i64_in _ (by omega)
      have hle : l ≤ wn := by omega
      have hne0 : ¬ wk = l := by omega
      refine wp_region_noPanic ?_
      have s0 := cw0
      have s1 := cw1
      have s2 := clv
      refine wp_region_held_drew (S := fun w' => w'.cell? ⟨gw, 0, none⟩ = some (.slice (some ⟨b, off, none⟩) wn wk) ∧ w'.cell? ⟨gw, 1, none⟩ = some (.int .i64 (l : Nat)) ∧ w'.cell? ⟨b, off + l, none⟩ = some (.slice ra rl rc)) (by kernel_rfl) ⟨s0, s1, s2⟩ (fun hHeld => ?_)
      have BL := bel_drew (Below.refl w5.heap.size w5)
      refine wpAnyH_take (i := 1) (v := ?_) rfl (by kernel_rfl) (by kernel_rfl) (by kernel_rfl) (fun _ _ _ h => h) (Or.inl ⟨by rfl, ?_⟩) (by assumption) ?_
      rotate_left
      · (intro wq hSw; (try dsimp only at hSw); go_simp; (try rw [if_pos hle, if_neg hne0]); try with_reducible rfl)
      try simp only [Act.put, List.setIfInBounds_toArray, List.set_cons_zero, List.set_cons_succ]
      refine wpAnyH_take (i := 2) (v := ?_) rfl (by kernel_rfl) (by kernel_rfl) (by kernel_rfl) (fun _ _ _ h => h) (Or.inl ⟨by rfl, ?_⟩) (by assumption) ?_
      rotate_left
      · (intro wq hSw; (try dsimp only at hSw); go_simp; (try rw [if_pos hle, if_neg hne0]); try with_reducible rfl)
      try simp only [Act.put, List.setIfInBounds_toArray, List.set_cons_zero, List.set_cons_succ]
      refine wpAnyH_take (i := 4) (v := ?_) rfl (by kernel_rfl) (by kernel_rfl) (by kernel_rfl) (fun _ _ _ h => h) (Or.inl ⟨by rfl, ?_⟩) (by assumption) ?_
      rotate_left
      · (intro wq hSw; (try dsimp only at hSw); go_simp; (try rw [if_pos hle, if_neg hne0]); try with_reducible rfl)
      try simp only [Act.put, List.setIfInBounds_toArray, List.set_cons_zero, List.set_cons_succ]
      refine wpAnyH_take (i := 5) (v := ?_) rfl (by kernel_rfl) (by kernel_rfl) (by kernel_rfl) (fun _ _ _ h => h) (Or.inl ⟨by rfl, ?_⟩) (by assumption) ?_
      rotate_left
      · (intro wq hSw; (try dsimp only at hSw); go_simp; (try rw [if_pos hle, if_neg hne0]); try with_reducible rfl)
      try simp only [Act.put, List.setIfInBounds_toArray, List.set_cons_zero, List.set_cons_succ]
      refine wpAnyH_take (i := 6) (v := ?_) rfl (by kernel_rfl) (by kernel_rfl) (by kernel_rfl) (fun _ _ _ h => h) (Or.inl ⟨by rfl, ?_⟩) (by assumption) ?_
      rotate_left
      · (intro wq hSw; (try dsimp only at hSw); go_simp; (try rw [if_pos hle, if_neg hne0]); try with_reducible rfl)
      try simp only [Act.put, List.setIfInBounds_toArray, List.set_cons_zero, List.set_cons_succ]
      refine wpAnyH_take (i := 7) (v := ?_) rfl (by kernel_rfl) (by kernel_rfl) (by kernel_rfl) (fun _ _ _ h => h) (Or.inl ⟨by rfl, ?_⟩) (by assumption) ?_
      rotate_left
      · (intro wq hSw; (try dsimp only at hSw); go_simp; (try rw [if_pos hle, if_neg hne0]); try with_reducible rfl)
      try simp only [Act.put, List.setIfInBounds_toArray, List.set_cons_zero, List.set_cons_succ]
      refine wpAnyH_take (i := 8) (v := ?_) rfl (by kernel_rfl) (by kernel_rfl) (by kernel_rfl) (fun _ _ _ h => h) (Or.inl ⟨by rfl, ?_⟩) (by assumption) ?_
      rotate_left
      · (intro wq hSw; (try dsimp only at hSw); go_simp; (try rw [if_pos hle, if_neg hne0]); try with_reducible rfl)
      try simp only [Act.put, List.setIfInBounds_toArray, List.set_cons_zero, List.set_cons_succ]
      refine wpAnyH_take (i := 9) (v := ?_) rfl (by kernel_rfl) (by kernel_rfl) (by kernel_rfl) (fun _ _ _ h => h) (Or.inl ⟨by rfl, ?_⟩) (by assumption) ?_
      rotate_left
      · (intro wq hSw; (try dsimp only at hSw); go_simp; (try rw [if_pos hle, if_neg hne0]); try with_reducible rfl)
      try simp only [Act.put, List.setIfInBounds_toArray, List.set_cons_zero, List.set_cons_succ]
      refine wpAnyH_take (i := 12) (v := ?_) rfl (by kernel_rfl) (by kernel_rfl) (by kernel_rfl) (fun _ _ _ h => h) (Or.inl ⟨by rfl, ?_⟩) (by assumption) ?_
      rotate_left
      · (intro wq hSw; (try dsimp only at hSw); go_simp; (try rw [if_pos hle, if_neg hne0]); try with_reducible rfl)
      try simp only [Act.put, List.setIfInBounds_toArray, List.set_cons_zero, List.set_cons_succ]
      refine wpAnyH_take (i := 13) (v := ?_) rfl (by kernel_rfl) (by kernel_rfl) (by kernel_rfl) (fun _ _ _ h => h) (Or.inl ⟨by rfl, ?_⟩) (by assumption) ?_
      rotate_left
      · (intro wq hSw; (try dsimp only at hSw); go_simp; (try rw [if_pos hle, if_neg hne0]); try with_reducible rfl)
      try simp only [Act.put, List.setIfInBounds_toArray, List.set_cons_zero, List.set_cons_succ]
      refine wpAnyH_take (i := 14) (v := ?_) rfl (by kernel_rfl) (by kernel_rfl) (by kernel_rfl) (fun _ _ _ h => h) (Or.inl ⟨by rfl, ?_⟩) (by assumption) ?_
      rotate_left
      · (intro wq hSw; (try dsimp only at hSw); go_simp; (try rw [if_pos hle, if_neg hne0]); try with_reducible rfl)
      try simp only [Act.put, List.setIfInBounds_toArray, List.set_cons_zero, List.set_cons_succ]
      refine wpAnyH_ready (rs := [0, 10, 16]) (by kernel_rfl) (by simp) ?_
      refine AllReadyH.cons rfl (fun K hK => ?_) (AllReadyH.cons rfl (fun K hK => ?_) (AllReadyH.cons rfl (fun K hK => ?_) (AllReadyH.nil)))
      · skip
        go_simp
        have BL := bel_alloc BL (.cells #[] 31)
        refine hK.out _ _ ⟨(BL.cell (p := ⟨gw, 0, none⟩) (cell_lt s0)).trans s0, (BL.cell (p := ⟨gw, 1, none⟩) (cell_lt s1)).trans s1, (BL.cell (p := ⟨b, off + l, none⟩) (cell_lt s2)).trans s2⟩ (fun hHeld => ?_)
        clear hK K
        try simp only [Act.put, List.setIfInBounds_toArray, List.set_cons_zero, List.set_cons_succ]
        refine wpAnyH_ready (rs := [3, 10, 16]) (by kernel_rfl) (by simp) ?_
        refine AllReadyH.cons rfl (fun K hK => ?_) (AllReadyH.cons rfl (fun K hK => ?_) (AllReadyH.cons rfl (fun K hK => ?_) (AllReadyH.nil)))
        · skip
          refine step_append_fresh rfl (.tmp 50) (.tmp 52) 25 31 rfl Try.underlying25 (.slice none 0 0) 24 Try.info_rowI rfl _ (by rfl) _ wn wk hw1 vals (by rfl) hvl (hsrc _ BL) (by unfold maxLen; omega) (by omega) ?_
          intro vO wO O atO BN
          change K (Act.put _ (some 53) vO) _
          have O := own_low O BL.size
          have BL := below_then BL BN
          refine hK.out _ _ ⟨(BL.cell (p := ⟨gw, 0, none⟩) (cell_lt s0)).trans s0, (BL.cell (p := ⟨gw, 1, none⟩) (cell_lt s1)).trans s1, (BL.cell (p := ⟨b, off + l, none⟩) (cell_lt s2)).trans s2⟩ (fun hHeld => ?_)
          clear hK K
          try simp only [Act.put, List.setIfInBounds_toArray, List.set_cons_zero, List.set_cons_succ]
          refine wpAnyH_ready (rs := [10, 16]) (by kernel_rfl) (by simp) ?_
          refine AllReadyH.cons rfl (fun K hK => ?_) (AllReadyH.cons rfl (fun K hK => ?_) (AllReadyH.nil))
          · skip
            go_simp
            have C := cell_new_at _ (.slice ra rl rc) 31 BL
            try simp only [World.size_alloc, size_drew] at C
            have BL := bel_alloc BL (.cells #[.slice ra rl rc] 31)
            have O := O.alloc (.cells #[.slice ra rl rc] 31)
            refine hK.out _ _ ⟨(BL.cell (p := ⟨gw, 0, none⟩) (cell_lt s0)).trans s0, (BL.cell (p := ⟨gw, 1, none⟩) (cell_lt s1)).trans s1, (BL.cell (p := ⟨b, off + l, none⟩) (cell_lt s2)).trans s2⟩ (fun hHeld => ?_)
            clear hK K
            try simp only [Act.put, List.setIfInBounds_toArray, List.set_cons_zero, List.set_cons_succ]
            refine wpAnyH_ready (rs := [11, 16]) (by kernel_rfl) (by simp) ?_
            refine AllReadyH.cons rfl (fun K hK => ?_) (AllReadyH.cons rfl (fun K hK => ?_) (AllReadyH.nil))
            · skip
              refine step_append_own rfl (.tmp 53) (.tmp 60) 25 31 rfl Try.underlying25 (.slice none 0 0) 24 Try.info_rowI rfl w5.heap.size vO wn vals (by rfl) O _ 1 1 [.slice ra rl rc] (by rfl) rfl (one_cell C) (fun u hu => by rw [List.mem_singleton.1 hu]; rfl) (by unfold maxLen; omega) (by omega) BL.size ?_
              intro vQ wQ Q GQ
              change K (Act.put _ (some 61) vQ) _
              have BL := BL.grown GQ BL.size (fun k hk => (O.lt k hk).1)
              obtain ⟨g1, c1, rfl, hg1, hg1l⟩ := own_shape Q (by omega)
              refine hK.out _ _ ⟨(BL.cell (p := ⟨gw, 0, none⟩) (cell_lt s0)).trans s0, (BL.cell (p := ⟨gw, 1, none⟩) (cell_lt s1)).trans s1, (BL.cell (p := ⟨b, off + l, none⟩) (cell_lt s2)).trans s2⟩ (fun hHeld => ?_)
              clear hK K
              try simp only [Act.put, List.setIfInBounds_toArray, List.set_cons_zero, List.set_cons_succ]
              refine wpAnyH_take (i := 15) (v := ?_) rfl (by kernel_rfl) (by kernel_rfl) (by kernel_rfl) (fun _ _ _ h => h) (Or.inl ⟨by rfl, ?_⟩) (by assumption) ?_
              rotate_left
              · (intro wq hSw; (try dsimp only at hSw); go_simp; (try rw [if_pos hle, if_neg hne0]); try with_reducible rfl)
              try simp only [Act.put, List.setIfInBounds_toArray, List.set_cons_zero, List.set_cons_succ]
              refine wpAnyH_ready (rs := [16]) (by kernel_rfl) (by simp) ?_
              refine AllReadyH.cons rfl (fun K hK => ?_) (AllReadyH.nil)
              go_simp
              have QQ := Q
              have BB := BL
              obtain ⟨hgBl, PB⟩ := box_new BL #[.slice none 0 0, .int .i64 0] 27
              try simp only [World.size_alloc, size_drew] at hgBl PB
              have BL := bel_alloc BL (.cells #[.slice none 0 0, .int .i64 0] 27)
              have Q := Q.alloc (.cells #[.slice none 0 0, .int .i64 0] 27)
              refine hK.out _ _ ⟨(BL.cell (p := ⟨gw, 0, none⟩) (cell_lt s0)).trans s0, (BL.cell (p := ⟨gw, 1, none⟩) (cell_lt s1)).trans s1, (BL.cell (p := ⟨b, off + l, none⟩) (cell_lt s2)).trans s2⟩ (fun hHeld => ?_)
              clear hK K
              try simp only [Act.put, List.setIfInBounds_toArray, List.set_cons_zero, List.set_cons_succ]
              refine wpAnyH_ready (rs := [17]) (by kernel_rfl) (by simp) ?_
              refine AllReadyH.cons rfl (fun K hK => ?_) (AllReadyH.nil)
              have k0 := cell_of_row _ _ 0 _ _ _ PB
              have k1 := cell_of_row _ _ 1 _ _ _ PB
              simp only [List.getElem?_toArray, List.getElem?_cons_zero, List.getElem?_cons_succ] at k0 k1
              have f0 := frozen_of_row _ _ 0 _ _ PB
              have f1 := frozen_of_row _ _ 1 _ _ PB
              go_simp
              have BF := bel_alloc BB (.cells #[.slice (some ⟨g1, 0, none⟩) (wn + 1) c1, .int .i64 ((l : Int) + 1)] 27)
              refine hK.out _ _ ⟨(BF.cell (p := ⟨gw, 0, none⟩) (cell_lt s0)).trans s0, (BF.cell (p := ⟨gw, 1, none⟩) (cell_lt s1)).trans s1, (BF.cell (p := ⟨b, off + l, none⟩) (cell_lt s2)).trans s2⟩ (fun hHeld => ?_)
              clear hK K
              refine wpAnyH_done (by kernel_rfl) ?_ _
              refine NoPanic.normal ?_
              try simp only [List.getElem_toArray, List.getElem_cons_succ, List.getElem_cons_zero, Act.put, List.setIfInBounds_toArray, List.set_cons_zero, List.set_cons_succ]
              go_wp2_with fail
              go_meet
              exact ⟨_, g1, c1, rfl, hgBl, heap_alloc_new _ _, own_word QQ (Below.heap_alloc _ _ _ hg1l) ((hvr.turn hvl hl hlv).mono BF), BF⟩
            · skip
              go_simp
              obtain ⟨hgBl, PB⟩ := box_new BL #[.slice none 0 0, .int .i64 0] 27
              try simp only [World.size_alloc, size_drew] at hgBl PB
              have BL := bel_alloc BL (.cells #[.slice none 0 0, .int .i64 0] 27)
              have O := O.alloc (.cells #[.slice none 0 0, .int .i64 0] 27)
              have C := cellAlloc _ (.cells #[.slice none 0 0, .int .i64 0] 27) C
              refine hK.out _ _ ⟨(BL.cell (p := ⟨gw, 0, none⟩) (cell_lt s0)).trans s0, (BL.cell (p := ⟨gw, 1, none⟩) (cell_lt s1)).trans s1, (BL.cell (p := ⟨b, off + l, none⟩) (cell_lt s2)).trans s2⟩ (fun hHeld => ?_)
              clear hK K
              try simp only [Act.put, List.setIfInBounds_toArray, List.set_cons_zero, List.set_cons_succ]
              refine wpAnyH_ready (rs := [11]) (by kernel_rfl) (by simp) ?_
              refine AllReadyH.cons rfl (fun K hK => ?_) (AllReadyH.nil)
              refine step_append_own rfl (.tmp 53) (.tmp 60) 25 31 rfl Try.underlying25 (.slice none 0 0) 24 Try.info_rowI rfl w5.heap.size vO wn vals (by rfl) O _ 1 1 [.slice ra rl rc] (by rfl) rfl (one_cell C) (fun u hu => by rw [List.mem_singleton.1 hu]; rfl) (by unfold maxLen; omega) (by omega) BL.size ?_
              intro vQ wQ Q GQ
              change K (Act.put _ (some 61) vQ) _
              have PB := (GQ.block _ (Array.getElem?_eq_some_iff.1 PB).1 (own_off O PB (by decide))).trans PB
              have BL := BL.grown GQ BL.size (fun k hk => (O.lt k hk).1)
              obtain ⟨g1, c1, rfl, hg1, hg1l⟩ := own_shape Q (by omega)
              refine hK.out _ _ ⟨(BL.cell (p := ⟨gw, 0, none⟩) (cell_lt s0)).trans s0, (BL.cell (p := ⟨gw, 1, none⟩) (cell_lt s1)).trans s1, (BL.cell (p := ⟨b, off + l, none⟩) (cell_lt s2)).trans s2⟩ (fun hHeld => ?_)
              clear hK K
              try simp only [Act.put, List.setIfInBounds_toArray, List.set_cons_zero, List.set_cons_succ]
              refine wpAnyH_take (i := 15) (v := ?_) rfl (by kernel_rfl) (by kernel_rfl) (by kernel_rfl) (fun _ _ _ h => h) (Or.inl ⟨by rfl, ?_⟩) (by assumption) ?_
              rotate_left
              · (intro wq hSw; (try dsimp only at hSw); go_simp; (try rw [if_pos hle, if_neg hne0]); try with_reducible rfl)
              try simp only [Act.put, List.setIfInBounds_toArray, List.set_cons_zero, List.set_cons_succ]
              refine wpAnyH_ready (rs := [17]) (by kernel_rfl) (by simp) ?_
              refine AllReadyH.cons rfl (fun K hK => ?_) (AllReadyH.nil)
              have k0 := cell_of_row _ _ 0 _ _ _ PB
              have k1 := cell_of_row _ _ 1 _ _ _ PB
              simp only [List.getElem?_toArray, List.getElem?_cons_zero, List.getElem?_cons_succ] at k0 k1
              have f0 := frozen_of_row _ _ 0 _ _ PB
              have f1 := frozen_of_row _ _ 1 _ _ PB
              go_simp
              have BF := two_bel (.slice (some ⟨g1, 0, none⟩) (wn + 1) c1) (.int .i64 ((l : Int) + 1)) BL hgBl
              refine hK.out _ _ ⟨(BF.cell (p := ⟨gw, 0, none⟩) (cell_lt s0)).trans s0, (BF.cell (p := ⟨gw, 1, none⟩) (cell_lt s1)).trans s1, (BF.cell (p := ⟨b, off + l, none⟩) (cell_lt s2)).trans s2⟩ (fun hHeld => ?_)
              clear hK K
              refine wpAnyH_done (by kernel_rfl) ?_ _
              refine NoPanic.normal ?_
              try simp only [List.getElem_toArray, List.getElem_cons_succ, List.getElem_cons_zero, Act.put, List.setIfInBounds_toArray, List.set_cons_zero, List.set_cons_succ]
              go_wp2_with fail
              go_meet
              have hne : g1 ≠ _ := fun h => own_off Q PB (by decide) (congrArg some h.symm)
              exact ⟨_, g1, c1, rfl, hgBl, two_row _ _ _ _ PB, own_word Q (two_oth _ _ _ hne) ((hvr.turn hvl hl hlv).mono BF), BF⟩
          · skip
            go_simp
            obtain ⟨hgBl, PB⟩ := box_new BL #[.slice none 0 0, .int .i64 0] 27
            try simp only [World.size_alloc, size_drew] at hgBl PB
            have BL := bel_alloc BL (.cells #[.slice none 0 0, .int .i64 0] 27)
            have O := O.alloc (.cells #[.slice none 0 0, .int .i64 0] 27)
            refine hK.out _ _ ⟨(BL.cell (p := ⟨gw, 0, none⟩) (cell_lt s0)).trans s0, (BL.cell (p := ⟨gw, 1, none⟩) (cell_lt s1)).trans s1, (BL.cell (p := ⟨b, off + l, none⟩) (cell_lt s2)).trans s2⟩ (fun hHeld => ?_)
            clear hK K
            try simp only [Act.put, List.setIfInBounds_toArray, List.set_cons_zero, List.set_cons_succ]
            refine wpAnyH_ready (rs := [10]) (by kernel_rfl) (by simp) ?_
            refine AllReadyH.cons rfl (fun K hK => ?_) (AllReadyH.nil)
            go_simp
            have C := cell_new_at _ (.slice ra rl rc) 31 BL
            try simp only [World.size_alloc, size_drew] at C
            have BL := bel_alloc BL (.cells #[.slice ra rl rc] 31)
            have O := O.alloc (.cells #[.slice ra rl rc] 31)
            have PB := row_alloc (.cells #[.slice ra rl rc] 31) PB
            refine hK.out _ _ ⟨(BL.cell (p := ⟨gw, 0, none⟩) (cell_lt s0)).trans s0, (BL.cell (p := ⟨gw, 1, none⟩) (cell_lt s1)).trans s1, (BL.cell (p := ⟨b, off + l, none⟩) (cell_lt s2)).trans s2⟩ (fun hHeld => ?_)
            clear hK K
            try simp only [Act.put, List.setIfInBounds_toArray, List.set_cons_zero, List.set_cons_succ]
            refine wpAnyH_ready (rs := [11]) (by kernel_rfl) (by simp) ?_
            refine AllReadyH.cons rfl (fun K hK => ?_) (AllReadyH.nil)
            refine step_append_own rfl (.tmp 53) (.tmp 60) 25 31 rfl Try.underlying25 (.slice none 0 0) 24 Try.info_rowI rfl w5.heap.size vO wn vals (by rfl) O _ 1 1 [.slice ra rl rc] (by rfl) rfl (one_cell C) (fun u hu => by rw [List.mem_singleton.1 hu]; rfl) (by unfold maxLen; omega) (by omega) BL.size ?_
            intro vQ wQ Q GQ
            change K (Act.put _ (some 61) vQ) _
            have PB := (GQ.block _ (Array.getElem?_eq_some_iff.1 PB).1 (own_off O PB (by decide))).trans PB
            have BL := BL.grown GQ BL.size (fun k hk => (O.lt k hk).1)
            obtain ⟨g1, c1, rfl, hg1, hg1l⟩ := own_shape Q (by omega)
            refine hK.out _ _ ⟨(BL.cell (p := ⟨gw, 0, none⟩) (cell_lt s0)).trans s0, (BL.cell (p := ⟨gw, 1, none⟩) (cell_lt s1)).trans s1, (BL.cell (p := ⟨b, off + l, none⟩) (cell_lt s2)).trans s2⟩ (fun hHeld => ?_)
            clear hK K
            try simp only [Act.put, List.setIfInBounds_toArray, List.set_cons_zero, List.set_cons_succ]
            refine wpAnyH_take (i := 15) (v := ?_) rfl (by kernel_rfl) (by kernel_rfl) (by kernel_rfl) (fun _ _ _ h => h) (Or.inl ⟨by rfl, ?_⟩) (by assumption) ?_
            rotate_left
            · (intro wq hSw; (try dsimp only at hSw); go_simp; (try rw [if_pos hle, if_neg hne0]); try with_reducible rfl)
            try simp only [Act.put, List.setIfInBounds_toArray, List.set_cons_zero, List.set_cons_succ]
            refine wpAnyH_ready (rs := [17]) (by kernel_rfl) (by simp) ?_
            refine AllReadyH.cons rfl (fun K hK => ?_) (AllReadyH.nil)
            have k0 := cell_of_row _ _ 0 _ _ _ PB
            have k1 := cell_of_row _ _ 1 _ _ _ PB
            simp only [List.getElem?_toArray, List.getElem?_cons_zero, List.getElem?_cons_succ] at k0 k1
            have f0 := frozen_of_row _ _ 0 _ _ PB
            have f1 := frozen_of_row _ _ 1 _ _ PB
            go_simp
            have BF := two_bel (.slice (some ⟨g1, 0, none⟩) (wn + 1) c1) (.int .i64 ((l : Int) + 1)) BL hgBl
            refine hK.out _ _ ⟨(BF.cell (p := ⟨gw, 0, none⟩) (cell_lt s0)).trans s0, (BF.cell (p := ⟨gw, 1, none⟩) (cell_lt s1)).trans s1, (BF.cell (p := ⟨b, off + l, none⟩) (cell_lt s2)).trans s2⟩ (fun hHeld => ?_)
            clear hK K
            refine wpAnyH_done (by kernel_rfl) ?_ _
            refine NoPanic.normal ?_
            try simp only [List.getElem_toArray, List.getElem_cons_succ, List.getElem_cons_zero, Act.put, List.setIfInBounds_toArray, List.set_cons_zero, List.set_cons_succ]
            go_wp2_with fail
            go_meet
            have hne : g1 ≠ _ := fun h => own_off Q PB (by decide) (congrArg some h.symm)
            exact ⟨_, g1, c1, rfl, hgBl, two_row _ _ _ _ PB, own_word Q (two_oth _ _ _ hne) ((hvr.turn hvl hl hlv).mono BF), BF⟩
        · skip
          go_simp
          have C := cell_new_at _ (.slice ra rl rc) 31 BL
          try simp only [World.size_alloc, size_drew] at C
          have BL := bel_alloc BL (.cells #[.slice ra rl rc] 31)
          refine hK.out _ _ ⟨(BL.cell (p := ⟨gw, 0, none⟩) (cell_lt s0)).trans s0, (BL.cell (p := ⟨gw, 1, none⟩) (cell_lt s1)).trans s1, (BL.cell (p := ⟨b, off + l, none⟩) (cell_lt s2)).trans s2⟩ (fun hHeld => ?_)
          clear hK K
          try simp only [Act.put, List.setIfInBounds_toArray, List.set_cons_zero, List.set_cons_succ]
          refine wpAnyH_ready (rs := [3, 16]) (by kernel_rfl) (by simp) ?_
          refine AllReadyH.cons rfl (fun K hK => ?_) (AllReadyH.cons rfl (fun K hK => ?_) (AllReadyH.nil))
          · skip
            refine step_append_fresh rfl (.tmp 50) (.tmp 52) 25 31 rfl Try.underlying25 (.slice none 0 0) 24 Try.info_rowI rfl _ (by rfl) _ wn wk hw1 vals (by rfl) hvl (hsrc _ BL) (by unfold maxLen; omega) (by omega) ?_
            intro vO wO O atO BN
            change K (Act.put _ (some 53) vO) _
            have O := own_low O BL.size
            have C := cell_next BN C
            have BL := below_then BL BN
            refine hK.out _ _ ⟨(BL.cell (p := ⟨gw, 0, none⟩) (cell_lt s0)).trans s0, (BL.cell (p := ⟨gw, 1, none⟩) (cell_lt s1)).trans s1, (BL.cell (p := ⟨b, off + l, none⟩) (cell_lt s2)).trans s2⟩ (fun hHeld => ?_)
            clear hK K
            try simp only [Act.put, List.setIfInBounds_toArray, List.set_cons_zero, List.set_cons_succ]
            refine wpAnyH_ready (rs := [11, 16]) (by kernel_rfl) (by simp) ?_
            refine AllReadyH.cons rfl (fun K hK => ?_) (AllReadyH.cons rfl (fun K hK => ?_) (AllReadyH.nil))
            · skip
              refine step_append_own rfl (.tmp 53) (.tmp 60) 25 31 rfl Try.underlying25 (.slice none 0 0) 24 Try.info_rowI rfl w5.heap.size vO wn vals (by rfl) O _ 1 1 [.slice ra rl rc] (by rfl) rfl (one_cell C) (fun u hu => by rw [List.mem_singleton.1 hu]; rfl) (by unfold maxLen; omega) (by omega) BL.size ?_
              intro vQ wQ Q GQ
              change K (Act.put _ (some 61) vQ) _
              have BL := BL.grown GQ BL.size (fun k hk => (O.lt k hk).1)
              obtain ⟨g1, c1, rfl, hg1, hg1l⟩ := own_shape Q (by omega)
              refine hK.out _ _ ⟨(BL.cell (p := ⟨gw, 0, none⟩) (cell_lt s0)).trans s0, (BL.cell (p := ⟨gw, 1, none⟩) (cell_lt s1)).trans s1, (BL.cell (p := ⟨b, off + l, none⟩) (cell_lt s2)).trans s2⟩ (fun hHeld => ?_)
              clear hK K
              try simp only [Act.put, List.setIfInBounds_toArray, List.set_cons_zero, List.set_cons_succ]
              refine wpAnyH_take (i := 15) (v := ?_) rfl (by kernel_rfl) (by kernel_rfl) (by kernel_rfl) (fun _ _ _ h => h) (Or.inl ⟨by rfl, ?_⟩) (by assumption) ?_
              rotate_left
              · (intro wq hSw; (try dsimp only at hSw); go_simp; (try rw [if_pos hle, if_neg hne0]); try with_reducible rfl)
              try simp only [Act.put, List.setIfInBounds_toArray, List.set_cons_zero, List.set_cons_succ]
              refine wpAnyH_ready (rs := [16]) (by kernel_rfl) (by simp) ?_
              refine AllReadyH.cons rfl (fun K hK => ?_) (AllReadyH.nil)
              go_simp
              have QQ := Q
              have BB := BL
              obtain ⟨hgBl, PB⟩ := box_new BL #[.slice none 0 0, .int .i64 0] 27
              try simp only [World.size_alloc, size_drew] at hgBl PB
              have BL := bel_alloc BL (.cells #[.slice none 0 0, .int .i64 0] 27)
              have Q := Q.alloc (.cells #[.slice none 0 0, .int .i64 0] 27)
              refine hK.out _ _ ⟨(BL.cell (p := ⟨gw, 0, none⟩) (cell_lt s0)).trans s0, (BL.cell (p := ⟨gw, 1, none⟩) (cell_lt s1)).trans s1, (BL.cell (p := ⟨b, off + l, none⟩) (cell_lt s2)).trans s2⟩ (fun hHeld => ?_)
              clear hK K
              try simp only [Act.put, List.setIfInBounds_toArray, List.set_cons_zero, List.set_cons_succ]
              refine wpAnyH_ready (rs := [17]) (by kernel_rfl) (by simp) ?_
              refine AllReadyH.cons rfl (fun K hK => ?_) (AllReadyH.nil)
              have k0 := cell_of_row _ _ 0 _ _ _ PB
              have k1 := cell_of_row _ _ 1 _ _ _ PB
              simp only [List.getElem?_toArray, List.getElem?_cons_zero, List.getElem?_cons_succ] at k0 k1
              have f0 := frozen_of_row _ _ 0 _ _ PB
              have f1 := frozen_of_row _ _ 1 _ _ PB
              go_simp
              have BF := bel_alloc BB (.cells #[.slice (some ⟨g1, 0, none⟩) (wn + 1) c1, .int .i64 ((l : Int) + 1)] 27)
              refine hK.out _ _ ⟨(BF.cell (p := ⟨gw, 0, none⟩) (cell_lt s0)).trans s0, (BF.cell (p := ⟨gw, 1, none⟩) (cell_lt s1)).trans s1, (BF.cell (p := ⟨b, off + l, none⟩) (cell_lt s2)).trans s2⟩ (fun hHeld => ?_)
              clear hK K
              refine wpAnyH_done (by kernel_rfl) ?_ _
              refine NoPanic.normal ?_
              try simp only [List.getElem_toArray, List.getElem_cons_succ, List.getElem_cons_zero, Act.put, List.setIfInBounds_toArray, List.set_cons_zero, List.set_cons_succ]
              go_wp2_with fail
              go_meet
              exact ⟨_, g1, c1, rfl, hgBl, heap_alloc_new _ _, own_word QQ (Below.heap_alloc _ _ _ hg1l) ((hvr.turn hvl hl hlv).mono BF), BF⟩
            · skip
              go_simp
              obtain ⟨hgBl, PB⟩ := box_new BL #[.slice none 0 0, .int .i64 0] 27
              try simp only [World.size_alloc, size_drew] at hgBl PB
              have BL := bel_alloc BL (.cells #[.slice none 0 0, .int .i64 0] 27)
              have O := O.alloc (.cells #[.slice none 0 0, .int .i64 0] 27)
              have C := cellAlloc _ (.cells #[.slice none 0 0, .int .i64 0] 27) C
              refine hK.out _ _ ⟨(BL.cell (p := ⟨gw, 0, none⟩) (cell_lt s0)).trans s0, (BL.cell (p := ⟨gw, 1, none⟩) (cell_lt s1)).trans s1, (BL.cell (p := ⟨b, off + l, none⟩) (cell_lt s2)).trans s2⟩ (fun hHeld => ?_)
              clear hK K
              try simp only [Act.put, List.setIfInBounds_toArray, List.set_cons_zero, List.set_cons_succ]
              refine wpAnyH_ready (rs := [11]) (by kernel_rfl) (by simp) ?_
              refine AllReadyH.cons rfl (fun K hK => ?_) (AllReadyH.nil)
              refine step_append_own rfl (.tmp 53) (.tmp 60) 25 31 rfl Try.underlying25 (.slice none 0 0) 24 Try.info_rowI rfl w5.heap.size vO wn vals (by rfl) O _ 1 1 [.slice ra rl rc] (by rfl) rfl (one_cell C) (fun u hu => by rw [List.mem_singleton.1 hu]; rfl) (by unfold maxLen; omega) (by omega) BL.size ?_
              intro vQ wQ Q GQ
              change K (Act.put _ (some 61) vQ) _
              have PB := (GQ.block _ (Array.getElem?_eq_some_iff.1 PB).1 (own_off O PB (by decide))).trans PB
              have BL := BL.grown GQ BL.size (fun k hk => (O.lt k hk).1)
              obtain ⟨g1, c1, rfl, hg1, hg1l⟩ := own_shape Q (by omega)
              refine hK.out _ _ ⟨(BL.cell (p := ⟨gw, 0, none⟩) (cell_lt s0)).trans s0, (BL.cell (p := ⟨gw, 1, none⟩) (cell_lt s1)).trans s1, (BL.cell (p := ⟨b, off + l, none⟩) (cell_lt s2)).trans s2⟩ (fun hHeld => ?_)
              clear hK K
              try simp only [Act.put, List.setIfInBounds_toArray, List.set_cons_zero, List.set_cons_succ]
              refine wpAnyH_take (i := 15) (v := ?_) rfl (by kernel_rfl) (by kernel_rfl) (by kernel_rfl) (fun _ _ _ h => h) (Or.inl ⟨by rfl, ?_⟩) (by assumption) ?_
              rotate_left
              · (intro wq hSw; (try dsimp only at hSw); go_simp; (try rw [if_pos hle, if_neg hne0]); try with_reducible rfl)
              try simp only [Act.put, List.setIfInBounds_toArray, List.set_cons_zero, List.set_cons_succ]
              refine wpAnyH_ready (rs := [17]) (by kernel_rfl) (by simp) ?_
              refine AllReadyH.cons rfl (fun K hK => ?_) (AllReadyH.nil)
              have k0 := cell_of_row _ _ 0 _ _ _ PB
              have k1 := cell_of_row _ _ 1 _ _ _ PB
              simp only [List.getElem?_toArray, List.getElem?_cons_zero, List.getElem?_cons_succ] at k0 k1
              have f0 := frozen_of_row _ _ 0 _ _ PB
              have f1 := frozen_of_row _ _ 1 _ _ PB
              go_simp
              have BF := two_bel (.slice (some ⟨g1, 0, none⟩) (wn + 1) c1) (.int .i64 ((l : Int) + 1)) BL hgBl
              refine hK.out _ _ ⟨(BF.cell (p := ⟨gw, 0, none⟩) (cell_lt s0)).trans s0, (BF.cell (p := ⟨gw, 1, none⟩) (cell_lt s1)).trans s1, (BF.cell (p := ⟨b, off + l, none⟩) (cell_lt s2)).trans s2⟩ (fun hHeld => ?_)
              clear hK K
              refine wpAnyH_done (by kernel_rfl) ?_ _
              refine NoPanic.normal ?_
              try simp only [List.getElem_toArray, List.getElem_cons_succ, List.getElem_cons_zero, Act.put, List.setIfInBounds_toArray, List.set_cons_zero, List.set_cons_succ]
              go_wp2_with fail
              go_meet
              have hne : g1 ≠ _ := fun h => own_off Q PB (by decide) (congrArg some h.symm)
              exact ⟨_, g1, c1, rfl, hgBl, two_row _ _ _ _ PB, own_word Q (two_oth _ _ _ hne) ((hvr.turn hvl hl hlv).mono BF), BF⟩
          · skip
            go_simp
            obtain ⟨hgBl, PB⟩ := box_new BL #[.slice none 0 0, .int .i64 0] 27
            try simp only [World.size_alloc, size_drew] at hgBl PB
            have BL := bel_alloc BL (.cells #[.slice none 0 0, .int .i64 0] 27)
            have C := cellAlloc _ (.cells #[.slice none 0 0, .int .i64 0] 27) C
            refine hK.out _ _ ⟨(BL.cell (p := ⟨gw, 0, none⟩) (cell_lt s0)).trans s0, (BL.cell (p := ⟨gw, 1, none⟩) (cell_lt s1)).trans s1, (BL.cell (p := ⟨b, off + l, none⟩) (cell_lt s2)).trans s2⟩ (fun hHeld => ?_)
            clear hK K
            try simp only [Act.put, List.setIfInBounds_toArray, List.set_cons_zero, List.set_cons_succ]
            refine wpAnyH_ready (rs := [3]) (by kernel_rfl) (by simp) ?_
            refine AllReadyH.cons rfl (fun K hK => ?_) (AllReadyH.nil)
            refine step_append_fresh rfl (.tmp 50) (.tmp 52) 25 31 rfl Try.underlying25 (.slice none 0 0) 24 Try.info_rowI rfl _ (by rfl) _ wn wk hw1 vals (by rfl) hvl (hsrc _ BL) (by unfold maxLen; omega) (by omega) ?_
            intro vO wO O atO BN
            change K (Act.put _ (some 53) vO) _
            have O := own_low O BL.size
            have PB := row_bel BN PB
            have C := cell_next BN C
            have BL := below_then BL BN
            refine hK.out _ _ ⟨(BL.cell (p := ⟨gw, 0, none⟩) (cell_lt s0)).trans s0, (BL.cell (p := ⟨gw, 1, none⟩) (cell_lt s1)).trans s1, (BL.cell (p := ⟨b, off + l, none⟩) (cell_lt s2)).trans s2⟩ (fun hHeld => ?_)
            clear hK K
            try simp only [Act.put, List.setIfInBounds_toArray, List.set_cons_zero, List.set_cons_succ]
            refine wpAnyH_ready (rs := [11]) (by kernel_rfl) (by simp) ?_
            refine AllReadyH.cons rfl (fun K hK => ?_) (AllReadyH.nil)
            refine step_append_own rfl (.tmp 53) (.tmp 60) 25 31 rfl Try.underlying25 (.slice none 0 0) 24 Try.info_rowI rfl w5.heap.size vO wn vals (by rfl) O _ 1 1 [.slice ra rl rc] (by rfl) rfl (one_cell C) (fun u hu => by rw [List.mem_singleton.1 hu]; rfl) (by unfold maxLen; omega) (by omega) BL.size ?_
            intro vQ wQ Q GQ
            change K (Act.put _ (some 61) vQ) _
            have PB := (GQ.block _ (Array.getElem?_eq_some_iff.1 PB).1 (own_off O PB (by decide))).trans PB
            have BL := BL.grown GQ BL.size (fun k hk => (O.lt k hk).1)
            obtain ⟨g1, c1, rfl, hg1, hg1l⟩ := own_shape Q (by omega)
            refine hK.out _ _ ⟨(BL.cell (p := ⟨gw, 0, none⟩) (cell_lt s0)).trans s0, (BL.cell (p := ⟨gw, 1, none⟩) (cell_lt s1)).trans s1, (BL.cell (p := ⟨b, off + l, none⟩) (cell_lt s2)).trans s2⟩ (fun hHeld => ?_)
            clear hK K
            try simp only [Act.put, List.setIfInBounds_toArray, List.set_cons_zero, List.set_cons_succ]
            refine wpAnyH_take (i := 15) (v := ?_) rfl (by kernel_rfl) (by kernel_rfl) (by kernel_rfl) (fun _ _ _ h => h) (Or.inl ⟨by rfl, ?_⟩) (by assumption) ?_
            rotate_left
            · (intro wq hSw; (try dsimp only at hSw); go_simp; (try rw [if_pos hle, if_neg hne0]); try with_reducible rfl)
            try simp only [Act.put, List.setIfInBounds_toArray, List.set_cons_zero, List.set_cons_succ]
            refine wpAnyH_ready (rs := [17]) (by kernel_rfl) (by simp) ?_
            refine AllReadyH.cons rfl (fun K hK => ?_) (AllReadyH.nil)
            have k0 := cell_of_row _ _ 0 _ _ _ PB
            have k1 := cell_of_row _ _ 1 _ _ _ PB
            simp only [List.getElem?_toArray, List.getElem?_cons_zero, List.getElem?_cons_succ] at k0 k1
            have f0 := frozen_of_row _ _ 0 _ _ PB
            have f1 := frozen_of_row _ _ 1 _ _ PB
            go_simp
            have BF := two_bel (.slice (some ⟨g1, 0, none⟩) (wn + 1) c1) (.int .i64 ((l : Int) + 1)) BL hgBl
            refine hK.out _ _ ⟨(BF.cell (p := ⟨gw, 0, none⟩) (cell_lt s0)).trans s0, (BF.cell (p := ⟨gw, 1, none⟩) (cell_lt s1)).trans s1, (BF.cell (p := ⟨b, off + l, none⟩) (cell_lt s2)).trans s2⟩ (fun hHeld => ?_)
            clear hK K
            refine wpAnyH_done (by kernel_rfl) ?_ _
            refine NoPanic.normal ?_
            try simp only [List.getElem_toArray, List.getElem_cons_succ, List.getElem_cons_zero, Act.put, List.setIfInBounds_toArray, List.set_cons_zero, List.set_cons_succ]
            go_wp2_with fail
            go_meet
            have hne : g1 ≠ _ := fun h => own_off Q PB (by decide) (congrArg some h.symm)
            exact ⟨_, g1, c1, rfl, hgBl, two_row _ _ _ _ PB, own_word Q (two_oth _ _ _ hne) ((hvr.turn hvl hl hlv).mono BF), BF⟩
        · skip
          go_simp
          obtain ⟨hgBl, PB⟩ := box_new BL #[.slice none 0 0, .int .i64 0] 27
          try simp only [World.size_alloc, size_drew] at hgBl PB
          have BL := bel_alloc BL (.cells #[.slice none 0 0, .int .i64 0] 27)
          refine hK.out _ _ ⟨(BL.cell (p := ⟨gw, 0, none⟩) (cell_lt s0)).trans s0, (BL.cell (p := ⟨gw, 1, none⟩) (cell_lt s1)).trans s1, (BL.cell (p := ⟨b, off + l, none⟩) (cell_lt s2)).trans s2⟩ (fun hHeld => ?_)
          clear hK K
          try simp only [Act.put, List.setIfInBounds_toArray, List.set_cons_zero, List.set_cons_succ]
          refine wpAnyH_ready (rs := [3, 10]) (by kernel_rfl) (by simp) ?_
          refine AllReadyH.cons rfl (fun K hK => ?_) (AllReadyH.cons rfl (fun K hK => ?_) (AllReadyH.nil))
          · skip
            refine step_append_fresh rfl (.tmp 50) (.tmp 52) 25 31 rfl Try.underlying25 (.slice none 0 0) 24 Try.info_rowI rfl _ (by rfl) _ wn wk hw1 vals (by rfl) hvl (hsrc _ BL) (by unfold maxLen; omega) (by omega) ?_
            intro vO wO O atO BN
            change K (Act.put _ (some 53) vO) _
            have O := own_low O BL.size
            have PB := row_bel BN PB
            have BL := below_then BL BN
            refine hK.out _ _ ⟨(BL.cell (p := ⟨gw, 0, none⟩) (cell_lt s0)).trans s0, (BL.cell (p := ⟨gw, 1, none⟩) (cell_lt s1)).trans s1, (BL.cell (p := ⟨b, off + l, none⟩) (cell_lt s2)).trans s2⟩ (fun hHeld => ?_)
            clear hK K
            try simp only [Act.put, List.setIfInBounds_toArray, List.set_cons_zero, List.set_cons_succ]
            refine wpAnyH_ready (rs := [10]) (by kernel_rfl) (by simp) ?_
            refine AllReadyH.cons rfl (fun K hK => ?_) (AllReadyH.nil)
            go_simp
            have C := cell_new_at _ (.slice ra rl rc) 31 BL
            try simp only [World.size_alloc, size_drew] at C
            have BL := bel_alloc BL (.cells #[.slice ra rl rc] 31)
            have O := O.alloc (.cells #[.slice ra rl rc] 31)
            have PB := row_alloc (.cells #[.slice ra rl rc] 31) PB
            refine hK.out _ _ ⟨(BL.cell (p := ⟨gw, 0, none⟩) (cell_lt s0)).trans s0, (BL.cell (p := ⟨gw, 1, none⟩) (cell_lt s1)).trans s1, (BL.cell (p := ⟨b, off + l, none⟩) (cell_lt s2)).trans s2⟩ (fun hHeld => ?_)
            clear hK K
            try simp only [Act.put, List.setIfInBounds_toArray, List.set_cons_zero, List.set_cons_succ]
            refine wpAnyH_ready (rs := [11]) (by kernel_rfl) (by simp) ?_
            refine AllReadyH.cons rfl (fun K hK => ?_) (AllReadyH.nil)
            refine step_append_own rfl (.tmp 53) (.tmp 60) 25 31 rfl Try.underlying25 (.slice none 0 0) 24 Try.info_rowI rfl w5.heap.size vO wn vals (by rfl) O _ 1 1 [.slice ra rl rc] (by rfl) rfl (one_cell C) (fun u hu => by rw [List.mem_singleton.1 hu]; rfl) (by unfold maxLen; omega) (by omega) BL.size ?_
            intro vQ wQ Q GQ
            change K (Act.put _ (some 61) vQ) _
            have PB := (GQ.block _ (Array.getElem?_eq_some_iff.1 PB).1 (own_off O PB (by decide))).trans PB
            have BL := BL.grown GQ BL.size (fun k hk => (O.lt k hk).1)
            obtain ⟨g1, c1, rfl, hg1, hg1l⟩ := own_shape Q (by omega)
            refine hK.out _ _ ⟨(BL.cell (p := ⟨gw, 0, none⟩) (cell_lt s0)).trans s0, (BL.cell (p := ⟨gw, 1, none⟩) (cell_lt s1)).trans s1, (BL.cell (p := ⟨b, off + l, none⟩) (cell_lt s2)).trans s2⟩ (fun hHeld => ?_)
            clear hK K
            try simp only [Act.put, List.setIfInBounds_toArray, List.set_cons_zero, List.set_cons_succ]
            refine wpAnyH_take (i := 15) (v := ?_) rfl (by kernel_rfl) (by kernel_rfl) (by kernel_rfl) (fun _ _ _ h => h) (Or.inl ⟨by rfl, ?_⟩) (by assumption) ?_
            rotate_left
            · (intro wq hSw; (try dsimp only at hSw); go_simp; (try rw [if_pos hle, if_neg hne0]); try with_reducible rfl)
            try simp only [Act.put, List.setIfInBounds_toArray, List.set_cons_zero, List.set_cons_succ]
            refine wpAnyH_ready (rs := [17]) (by kernel_rfl) (by simp) ?_
            refine AllReadyH.cons rfl (fun K hK => ?_) (AllReadyH.nil)
            have k0 := cell_of_row _ _ 0 _ _ _ PB
            have k1 := cell_of_row _ _ 1 _ _ _ PB
            simp only [List.getElem?_toArray, List.getElem?_cons_zero, List.getElem?_cons_succ] at k0 k1
            have f0 := frozen_of_row _ _ 0 _ _ PB
            have f1 := frozen_of_row _ _ 1 _ _ PB
            go_simp
            have BF := two_bel (.slice (some ⟨g1, 0, none⟩) (wn + 1) c1) (.int .i64 ((l : Int) + 1)) BL hgBl
            refine hK.out _ _ ⟨(BF.cell (p := ⟨gw, 0, none⟩) (cell_lt s0)).trans s0, (BF.cell (p := ⟨gw, 1, none⟩) (cell_lt s1)).trans s1, (BF.cell (p := ⟨b, off + l, none⟩) (cell_lt s2)).trans s2⟩ (fun hHeld => ?_)
            clear hK K
            refine wpAnyH_done (by kernel_rfl) ?_ _
            refine NoPanic.normal ?_
            try simp only [List.getElem_toArray, List.getElem_cons_succ, List.getElem_cons_zero, Act.put, List.setIfInBounds_toArray, List.set_cons_zero, List.set_cons_succ]
            go_wp2_with fail
            go_meet
            have hne : g1 ≠ _ := fun h => own_off Q PB (by decide) (congrArg some h.symm)
            exact ⟨_, g1, c1, rfl, hgBl, two_row _ _ _ _ PB, own_word Q (two_oth _ _ _ hne) ((hvr.turn hvl hl hlv).mono BF), BF⟩
          · skip
            go_simp
            have C := cell_new_at _ (.slice ra rl rc) 31 BL
            try simp only [World.size_alloc, size_drew] at C
            have BL := bel_alloc BL (.cells #[.slice ra rl rc] 31)
            have PB := row_alloc (.cells #[.slice ra rl rc] 31) PB
            refine hK.out _ _ ⟨(BL.cell (p := ⟨gw, 0, none⟩) (cell_lt s0)).trans s0, (BL.cell (p := ⟨gw, 1, none⟩) (cell_lt s1)).trans s1, (BL.cell (p := ⟨b, off + l, none⟩) (cell_lt s2)).trans s2⟩ (fun hHeld => ?_)
            clear hK K
            try simp only [Act.put, List.setIfInBounds_toArray, List.set_cons_zero, List.set_cons_succ]
            refine wpAnyH_ready (rs := [3]) (by kernel_rfl) (by simp) ?_
            refine AllReadyH.cons rfl (fun K hK => ?_) (AllReadyH.nil)
            refine step_append_fresh rfl (.tmp 50) (.tmp 52) 25 31 rfl Try.underlying25 (.slice none 0 0) 24 Try.info_rowI rfl _ (by rfl) _ wn wk hw1 vals (by rfl) hvl (hsrc _ BL) (by unfold maxLen; omega) (by omega) ?_
            intro vO wO O atO BN
            change K (Act.put _ (some 53) vO) _
            have O := own_low O BL.size
            have PB := row_bel BN PB
            have C := cell_next BN C
            have BL := below_then BL BN
            refine hK.out _ _ ⟨(BL.cell (p := ⟨gw, 0, none⟩) (cell_lt s0)).trans s0, (BL.cell (p := ⟨gw, 1, none⟩) (cell_lt s1)).trans s1, (BL.cell (p := ⟨b, off + l, none⟩) (cell_lt s2)).trans s2⟩ (fun hHeld => ?_)
            clear hK K
            try simp only [Act.put, List.setIfInBounds_toArray, List.set_cons_zero, List.set_cons_succ]
            refine wpAnyH_ready (rs := [11]) (by kernel_rfl) (by simp) ?_
            refine AllReadyH.cons rfl (fun K hK => ?_) (AllReadyH.nil)
            refine step_append_own rfl (.tmp 53) (.tmp 60) 25 31 rfl Try.underlying25 (.slice none 0 0) 24 Try.info_rowI rfl w5.heap.size vO wn vals (by rfl) O _ 1 1 [.slice ra rl rc] (by rfl) rfl (one_cell C) (fun u hu => by rw [List.mem_singleton.1 hu]; rfl) (by unfold maxLen; omega) (by omega) BL.size ?_
            intro vQ wQ Q GQ
            change K (Act.put _ (some 61) vQ) _
            have PB := (GQ.block _ (Array.getElem?_eq_some_iff.1 PB).1 (own_off O PB (by decide))).trans PB
            have BL := BL.grown GQ BL.size (fun k hk => (O.lt k hk).1)
            obtain ⟨g1, c1, rfl, hg1, hg1l⟩ := own_shape Q (by omega)
            refine hK.out _ _ ⟨(BL.cell (p := ⟨gw, 0, none⟩) (cell_lt s0)).trans s0, (BL.cell (p := ⟨gw, 1, none⟩) (cell_lt s1)).trans s1, (BL.cell (p := ⟨b, off + l, none⟩) (cell_lt s2)).trans s2⟩ (fun hHeld => ?_)
            clear hK K
            try simp only [Act.put, List.setIfInBounds_toArray, List.set_cons_zero, List.set_cons_succ]
            refine wpAnyH_take (i := 15) (v := ?_) rfl (by kernel_rfl) (by kernel_rfl) (by kernel_rfl) (fun _ _ _ h => h) (Or.inl ⟨by rfl, ?_⟩) (by assumption) ?_
            rotate_left
            · (intro wq hSw; (try dsimp only at hSw); go_simp; (try rw [if_pos hle, if_neg hne0]); try with_reducible rfl)
            try simp only [Act.put, List.setIfInBounds_toArray, List.set_cons_zero, List.set_cons_succ]
            refine wpAnyH_ready (rs := [17]) (by kernel_rfl) (by simp) ?_
            refine AllReadyH.cons rfl (fun K hK => ?_) (AllReadyH.nil)
            have k0 := cell_of_row _ _ 0 _ _ _ PB
            have k1 := cell_of_row _ _ 1 _ _ _ PB
            simp only [List.getElem?_toArray, List.getElem?_cons_zero, List.getElem?_cons_succ] at k0 k1
            have f0 := frozen_of_row _ _ 0 _ _ PB
            have f1 := frozen_of_row _ _ 1 _ _ PB
            go_simp
            have BF := two_bel (.slice (some ⟨g1, 0, none⟩) (wn + 1) c1) (.int .i64 ((l : Int) + 1)) BL hgBl
            refine hK.out _ _ ⟨(BF.cell (p := ⟨gw, 0, none⟩) (cell_lt s0)).trans s0, (BF.cell (p := ⟨gw, 1, none⟩) (cell_lt s1)).trans s1, (BF.cell (p := ⟨b, off + l, none⟩) (cell_lt s2)).trans s2⟩ (fun hHeld => ?_)
            clear hK K
            refine wpAnyH_done (by kernel_rfl) ?_ _
            refine NoPanic.normal ?_
            try simp only [List.getElem_toArray, List.getElem_cons_succ, List.getElem_cons_zero, Act.put, List.setIfInBounds_toArray, List.set_cons_zero, List.set_cons_succ]
            go_wp2_with fail
            go_meet
            have hne : g1 ≠ _ := fun h => own_off Q PB (by decide) (congrArg some h.symm)
            exact ⟨_, g1, c1, rfl, hgBl, two_row _ _ _ _ PB, own_word Q (two_oth _ _ _ hne) ((hvr.turn hvl hl hlv).mono BF), BF⟩
      · skip
        go_simp
        have C := cell_new_at _ (.slice ra rl rc) 31 BL
        try simp only [World.size_alloc, size_drew] at C
        have BL := bel_alloc BL (.cells #[.slice ra rl rc] 31)
        refine hK.out _ _ ⟨(BL.cell (p := ⟨gw, 0, none⟩) (cell_lt s0)).trans s0, (BL.cell (p := ⟨gw, 1, none⟩) (cell_lt s1)).trans s1, (BL.cell (p := ⟨b, off + l, none⟩) (cell_lt s2)).trans s2⟩ (fun hHeld => ?_)
        clear hK K
        try simp only [Act.put, List.setIfInBounds_toArray, List.set_cons_zero, List.set_cons_succ]
        refine wpAnyH_ready (rs := [0, 16]) (by kernel_rfl) (by simp) ?_
        refine AllReadyH.cons rfl (fun K hK => ?_) (AllReadyH.cons rfl (fun K hK => ?_) (AllReadyH.nil))
        · skip
          go_simp
          have BL := bel_alloc BL (.cells #[] 31)
          have C := cellAlloc _ (.cells #[] 31) C
          refine hK.out _ _ ⟨(BL.cell (p := ⟨gw, 0, none⟩) (cell_lt s0)).trans s0, (BL.cell (p := ⟨gw, 1, none⟩) (cell_lt s1)).trans s1, (BL.cell (p := ⟨b, off + l, none⟩) (cell_lt s2)).trans s2⟩ (fun hHeld => ?_)
          clear hK K
          try simp only [Act.put, List.setIfInBounds_toArray, List.set_cons_zero, List.set_cons_succ]
          refine wpAnyH_ready (rs := [3, 16]) (by kernel_rfl) (by simp) ?_
          refine AllReadyH.cons rfl (fun K hK => ?_) (AllReadyH.cons rfl (fun K hK => ?_) (AllReadyH.nil))
          · skip
            refine step_append_fresh rfl (.tmp 50) (.tmp 52) 25 31 rfl Try.underlying25 (.slice none 0 0) 24 Try.info_rowI rfl _ (by rfl) _ wn wk hw1 vals (by rfl) hvl (hsrc _ BL) (by unfold maxLen; omega) (by omega) ?_
            intro vO wO O atO BN
            change K (Act.put _ (some 53) vO) _
            have O := own_low O BL.size
            have C := cell_next BN C
            have BL := below_then BL BN
            refine hK.out _ _ ⟨(BL.cell (p := ⟨gw, 0, none⟩) (cell_lt s0)).trans s0, (BL.cell (p := ⟨gw, 1, none⟩) (cell_lt s1)).trans s1, (BL.cell (p := ⟨b, off + l, none⟩) (cell_lt s2)).trans s2⟩ (fun hHeld => ?_)
            clear hK K
            try simp only [Act.put, List.setIfInBounds_toArray, List.set_cons_zero, List.set_cons_succ]
            refine wpAnyH_ready (rs := [11, 16]) (by kernel_rfl) (by simp) ?_
            refine AllReadyH.cons rfl (fun K hK => ?_) (AllReadyH.cons rfl (fun K hK => ?_) (AllReadyH.nil))
            · skip
              refine step_append_own rfl (.tmp 53) (.tmp 60) 25 31 rfl Try.underlying25 (.slice none 0 0) 24 Try.info_rowI rfl w5.heap.size vO wn vals (by rfl) O _ 1 1 [.slice ra rl rc] (by rfl) rfl (one_cell C) (fun u hu => by rw [List.mem_singleton.1 hu]; rfl) (by unfold maxLen; omega) (by omega) BL.size ?_
              intro vQ wQ Q GQ
              change K (Act.put _ (some 61) vQ) _
              have BL := BL.grown GQ BL.size (fun k hk => (O.lt k hk).1)
              obtain ⟨g1, c1, rfl, hg1, hg1l⟩ := own_shape Q (by omega)
              refine hK.out _ _ ⟨(BL.cell (p := ⟨gw, 0, none⟩) (cell_lt s0)).trans s0, (BL.cell (p := ⟨gw, 1, none⟩) (cell_lt s1)).trans s1, (BL.cell (p := ⟨b, off + l, none⟩) (cell_lt s2)).trans s2⟩ (fun hHeld => ?_)
              clear hK K
              try simp only [Act.put, List.setIfInBounds_toArray, List.set_cons_zero, List.set_cons_succ]
              refine wpAnyH_take (i := 15) (v := ?_) rfl (by kernel_rfl) (by kernel_rfl) (by kernel_rfl) (fun _ _ _ h => h) (Or.inl ⟨by rfl, ?_⟩) (by assumption) ?_
              rotate_left
              · (intro wq hSw; (try dsimp only at hSw); go_simp; (try rw [if_pos hle, if_neg hne0]); try with_reducible rfl)
              try simp only [Act.put, List.setIfInBounds_toArray, List.set_cons_zero, List.set_cons_succ]
              refine wpAnyH_ready (rs := [16]) (by kernel_rfl) (by simp) ?_
              refine AllReadyH.cons rfl (fun K hK => ?_) (AllReadyH.nil)
              go_simp
              have QQ := Q
              have BB := BL
              obtain ⟨hgBl, PB⟩ := box_new BL #[.slice none 0 0, .int .i64 0] 27
              try simp only [World.size_alloc, size_drew] at hgBl PB
              have BL := bel_alloc BL (.cells #[.slice none 0 0, .int .i64 0] 27)
              have Q := Q.alloc (.cells #[.slice none 0 0, .int .i64 0] 27)
              refine hK.out _ _ ⟨(BL.cell (p := ⟨gw, 0, none⟩) (cell_lt s0)).trans s0, (BL.cell (p := ⟨gw, 1, none⟩) (cell_lt s1)).trans s1, (BL.cell (p := ⟨b, off + l, none⟩) (cell_lt s2)).trans s2⟩ (fun hHeld => ?_)
              clear hK K
              try simp only [Act.put, List.setIfInBounds_toArray, List.set_cons_zero, List.set_cons_succ]
              refine wpAnyH_ready (rs := [17]) (by kernel_rfl) (by simp) ?_
              refine AllReadyH.cons rfl (fun K hK => ?_) (AllReadyH.nil)
              have k0 := cell_of_row _ _ 0 _ _ _ PB
              have k1 := cell_of_row _ _ 1 _ _ _ PB
              simp only [List.getElem?_toArray, List.getElem?_cons_zero, List.getElem?_cons_succ] at k0 k1
              have f0 := frozen_of_row _ _ 0 _ _ PB
              have f1 := frozen_of_row _ _ 1 _ _ PB
              go_simp
              have BF := bel_alloc BB (.cells #[.slice (some ⟨g1, 0, none⟩) (wn + 1) c1, .int .i64 ((l : Int) + 1)] 27)
              refine hK.out _ _ ⟨(BF.cell (p := ⟨gw, 0, none⟩) (cell_lt s0)).trans s0, (BF.cell (p := ⟨gw, 1, none⟩) (cell_lt s1)).trans s1, (BF.cell (p := ⟨b, off + l, none⟩) (cell_lt s2)).trans s2⟩ (fun hHeld => ?_)
              clear hK K
              refine wpAnyH_done (by kernel_rfl) ?_ _
              refine NoPanic.normal ?_
              try simp only [List.getElem_toArray, List.getElem_cons_succ, List.getElem_cons_zero, Act.put, List.setIfInBounds_toArray, List.set_cons_zero, List.set_cons_succ]
              go_wp2_with fail
              go_meet
              exact ⟨_, g1, c1, rfl, hgBl, heap_alloc_new _ _, own_word QQ (Below.heap_alloc _ _ _ hg1l) ((hvr.turn hvl hl hlv).mono BF), BF⟩
            · skip
              go_simp
              obtain ⟨hgBl, PB⟩ := box_new BL #[.slice none 0 0, .int .i64 0] 27
              try simp only [World.size_alloc, size_drew] at hgBl PB
              have BL := bel_alloc BL (.cells #[.slice none 0 0, .int .i64 0] 27)
              have O := O.alloc (.cells #[.slice none 0 0, .int .i64 0] 27)
              have C := cellAlloc _ (.cells #[.slice none 0 0, .int .i64 0] 27) C
              refine hK.out _ _ ⟨(BL.cell (p := ⟨gw, 0, none⟩) (cell_lt s0)).trans s0, (BL.cell (p := ⟨gw, 1, none⟩) (cell_lt s1)).trans s1, (BL.cell (p := ⟨b, off + l, none⟩) (cell_lt s2)).trans s2⟩ (fun hHeld => ?_)
              clear hK K
              try simp only [Act.put, List.setIfInBounds_toArray, List.set_cons_zero, List.set_cons_succ]
              refine wpAnyH_ready (rs := [11]) (by kernel_rfl) (by simp) ?_
              refine AllReadyH.cons rfl (fun K hK => ?_) (AllReadyH.nil)
              refine step_append_own rfl (.tmp 53) (.tmp 60) 25 31 rfl Try.underlying25 (.slice none 0 0) 24 Try.info_rowI rfl w5.heap.size vO wn vals (by rfl) O _ 1 1 [.slice ra rl rc] (by rfl) rfl (one_cell C) (fun u hu => by rw [List.mem_singleton.1 hu]; rfl) (by unfold maxLen; omega) (by omega) BL.size ?_
              intro vQ wQ Q GQ
              change K (Act.put _ (some 61) vQ) _
              have PB := (GQ.block _ (Array.getElem?_eq_some_iff.1 PB).1 (own_off O PB (by decide))).trans PB
              have BL := BL.grown GQ BL.size (fun k hk => (O.lt k hk).1)
              obtain ⟨g1, c1, rfl, hg1, hg1l⟩ := own_shape Q (by omega)
              refine hK.out _ _ ⟨(BL.cell (p := ⟨gw, 0, none⟩) (cell_lt s0)).trans s0, (BL.cell (p := ⟨gw, 1, none⟩) (cell_lt s1)).trans s1, (BL.cell (p := ⟨b, off + l, none⟩) (cell_lt s2)).trans s2⟩ (fun hHeld => ?_)
              clear hK K
              try simp only [Act.put, List.setIfInBounds_toArray, List.set_cons_zero, List.set_cons_succ]
              refine wpAnyH_take (i := 15) (v := ?_) rfl (by kernel_rfl) (by kernel_rfl) (by kernel_rfl) (fun _ _ _ h => h) (Or.inl ⟨by rfl, ?_⟩) (by assumption) ?_
              rotate_left
              · (intro wq hSw; (try dsimp only at hSw); go_simp; (try rw [if_pos hle, if_neg hne0]); try with_reducible rfl)
              try simp only [Act.put, List.setIfInBounds_toArray, List.set_cons_zero, List.set_cons_succ]
              refine wpAnyH_ready (rs := [17]) (by kernel_rfl) (by simp) ?_
              refine AllReadyH.cons rfl (fun K hK => ?_) (AllReadyH.nil)
              have k0 := cell_of_row _ _ 0 _ _ _ PB
              have k1 := cell_of_row _ _ 1 _ _ _ PB
              simp only [List.getElem?_toArray, List.getElem?_cons_zero, List.getElem?_cons_succ] at k0 k1
              have f0 := frozen_of_row _ _ 0 _ _ PB
              have f1 := frozen_of_row _ _ 1 _ _ PB
              go_simp
              have BF := two_bel (.slice (some ⟨g1, 0, none⟩) (wn + 1) c1) (.int .i64 ((l : Int) + 1)) BL hgBl
              refine hK.out _ _ ⟨(BF.cell (p := ⟨gw, 0, none⟩) (cell_lt s0)).trans s0, (BF.cell (p := ⟨gw, 1, none⟩) (cell_lt s1)).trans s1, (BF.cell (p := ⟨b, off + l, none⟩) (cell_lt s2)).trans s2⟩ (fun hHeld => ?_)
              clear hK K
              refine wpAnyH_done (by kernel_rfl) ?_ _
              refine NoPanic.normal ?_
              try simp only [List.getElem_toArray, List.getElem_cons_succ, List.getElem_cons_zero, Act.put, List.setIfInBounds_toArray, List.set_cons_zero, List.set_cons_succ]
              go_wp2_with fail
              go_meet
              have hne : g1 ≠ _ := fun h => own_off Q PB (by decide) (congrArg some h.symm)
              exact ⟨_, g1, c1, rfl, hgBl, two_row _ _ _ _ PB, own_word Q (two_oth _ _ _ hne) ((hvr.turn hvl hl hlv).mono BF), BF⟩
          · skip
            go_simp
            obtain ⟨hgBl, PB⟩ := box_new BL #[.slice none 0 0, .int .i64 0] 27
            try simp only [World.size_alloc, size_drew] at hgBl PB
            have BL := bel_alloc BL (.cells #[.slice none 0 0, .int .i64 0] 27)
            have C := cellAlloc _ (.cells #[.slice none 0 0, .int .i64 0] 27) C
            refine hK.out _ _ ⟨(BL.cell (p := ⟨gw, 0, none⟩) (cell_lt s0)).trans s0, (BL.cell (p := ⟨gw, 1, none⟩) (cell_lt s1)).trans s1, (BL.cell (p := ⟨b, off + l, none⟩) (cell_lt s2)).trans s2⟩ (fun hHeld => ?_)
            clear hK K
            try simp only [Act.put, List.setIfInBounds_toArray, List.set_cons_zero, List.set_cons_succ]
            refine wpAnyH_ready (rs := [3]) (by kernel_rfl) (by simp) ?_
            refine AllReadyH.cons rfl (fun K hK => ?_) (AllReadyH.nil)
            refine step_append_fresh rfl (.tmp 50) (.tmp 52) 25 31 rfl Try.underlying25 (.slice none 0 0) 24 Try.info_rowI rfl _ (by rfl) _ wn wk hw1 vals (by rfl) hvl (hsrc _ BL) (by unfold maxLen; omega) (by omega) ?_
            intro vO wO O atO BN
            change K (Act.put _ (some 53) vO) _
            have O := own_low O BL.size
            have PB := row_bel BN PB
            have C := cell_next BN C
            have BL := below_then BL BN
            refine hK.out _ _ ⟨(BL.cell (p := ⟨gw, 0, none⟩) (cell_lt s0)).trans s0, (BL.cell (p := ⟨gw, 1, none⟩) (cell_lt s1)).trans s1, (BL.cell (p := ⟨b, off + l, none⟩) (cell_lt s2)).trans s2⟩ (fun hHeld => ?_)
            clear hK K
            try simp only [Act.put, List.setIfInBounds_toArray, List.set_cons_zero, List.set_cons_succ]
            refine wpAnyH_ready (rs := [11]) (by kernel_rfl) (by simp) ?_
            refine AllReadyH.cons rfl (fun K hK => ?_) (AllReadyH.nil)
            refine step_append_own rfl (.tmp 53) (.tmp 60) 25 31 rfl Try.underlying25 (.slice none 0 0) 24 Try.info_rowI rfl w5.heap.size vO wn vals (by rfl) O _ 1 1 [.slice ra rl rc] (by rfl) rfl (one_cell C) (fun u hu => by rw [List.mem_singleton.1 hu]; rfl) (by unfold maxLen; omega) (by omega) BL.size ?_
            intro vQ wQ Q GQ
            change K (Act.put _ (some 61) vQ) _
            have PB := (GQ.block _ (Array.getElem?_eq_some_iff.1 PB).1 (own_off O PB (by decide))).trans PB
            have BL := BL.grown GQ BL.size (fun k hk => (O.lt k hk).1)
            obtain ⟨g1, c1, rfl, hg1, hg1l⟩ := own_shape Q (by omega)
            refine hK.out _ _ ⟨(BL.cell (p := ⟨gw, 0, none⟩) (cell_lt s0)).trans s0, (BL.cell (p := ⟨gw, 1, none⟩) (cell_lt s1)).trans s1, (BL.cell (p := ⟨b, off + l, none⟩) (cell_lt s2)).trans s2⟩ (fun hHeld => ?_)
            clear hK K
            try simp only [Act.put, List.setIfInBounds_toArray, List.set_cons_zero, List.set_cons_succ]
            refine wpAnyH_take (i := 15) (v := ?_) rfl (by kernel_rfl) (by kernel_rfl) (by kernel_rfl) (fun _ _ _ h => h) (Or.inl ⟨by rfl, ?_⟩) (by assumption) ?_
            rotate_left
            · (intro wq hSw; (try dsimp only at hSw); go_simp; (try rw [if_pos hle, if_neg hne0]); try with_reducible rfl)
            try simp only [Act.put, List.setIfInBounds_toArray, List.set_cons_zero, List.set_cons_succ]
            refine wpAnyH_ready (rs := [17]) (by kernel_rfl) (by simp) ?_
            refine AllReadyH.cons rfl (fun K hK => ?_) (AllReadyH.nil)
            have k0 := cell_of_row _ _ 0 _ _ _ PB
            have k1 := cell_of_row _ _ 1 _ _ _ PB
            simp only [List.getElem?_toArray, List.getElem?_cons_zero, List.getElem?_cons_succ] at k0 k1
            have f0 := frozen_of_row _ _ 0 _ _ PB
            have f1 := frozen_of_row _ _ 1 _ _ PB
            go_simp
            have BF := two_bel (.slice (some ⟨g1, 0, none⟩) (wn + 1) c1) (.int .i64 ((l : Int) + 1)) BL hgBl
            refine hK.out _ _ ⟨(BF.cell (p := ⟨gw, 0, none⟩) (cell_lt s0)).trans s0, (BF.cell (p := ⟨gw, 1, none⟩) (cell_lt s1)).trans s1, (BF.cell (p := ⟨b, off + l, none⟩) (cell_lt s2)).trans s2⟩ (fun hHeld => ?_)
            clear hK K
            refine wpAnyH_done (by kernel_rfl) ?_ _
            refine NoPanic.normal ?_
            try simp only [List.getElem_toArray, List.getElem_cons_succ, List.getElem_cons_zero, Act.put, List.setIfInBounds_toArray, List.set_cons_zero, List.set_cons_succ]
            go_wp2_with fail
            go_meet
            have hne : g1 ≠ _ := fun h => own_off Q PB (by decide) (congrArg some h.symm)
            exact ⟨_, g1, c1, rfl, hgBl, two_row _ _ _ _ PB, own_word Q (two_oth _ _ _ hne) ((hvr.turn hvl hl hlv).mono BF), BF⟩
        · skip
          go_simp
          obtain ⟨hgBl, PB⟩ := box_new BL #[.slice none 0 0, .int .i64 0] 27
          try simp only [World.size_alloc, size_drew] at hgBl PB
          have BL := bel_alloc BL (.cells #[.slice none 0 0, .int .i64 0] 27)
          have C := cellAlloc _ (.cells #[.slice none 0 0, .int .i64 0] 27) C
          refine hK.out _ _ ⟨(BL.cell (p := ⟨gw, 0, none⟩) (cell_lt s0)).trans s0, (BL.cell (p := ⟨gw, 1, none⟩) (cell_lt s1)).trans s1, (BL.cell (p := ⟨b, off + l, none⟩) (cell_lt s2)).trans s2⟩ (fun hHeld => ?_)
          clear hK K
          try simp only [Act.put, List.setIfInBounds_toArray, List.set_cons_zero, List.set_cons_succ]
          refine wpAnyH_ready (rs := [0]) (by kernel_rfl) (by simp) ?_
          refine AllReadyH.cons rfl (fun K hK => ?_) (AllReadyH.nil)
          go_simp
          have BL := bel_alloc BL (.cells #[] 31)
          have PB := row_alloc (.cells #[] 31) PB
          have C := cellAlloc _ (.cells #[] 31) C
          refine hK.out _ _ ⟨(BL.cell (p := ⟨gw, 0, none⟩) (cell_lt s0)).trans s0, (BL.cell (p := ⟨gw, 1, none⟩) (cell_lt s1)).trans s1, (BL.cell (p := ⟨b, off + l, none⟩) (cell_lt s2)).trans s2⟩ (fun hHeld => ?_)
          clear hK K
          try simp only [Act.put, List.setIfInBounds_toArray, List.set_cons_zero, List.set_cons_succ]
          refine wpAnyH_ready (rs := [3]) (by kernel_rfl) (by simp) ?_
          refine AllReadyH.cons rfl (fun K hK => ?_) (AllReadyH.nil)
          refine step_append_fresh rfl (.tmp 50) (.tmp 52) 25 31 rfl Try.underlying25 (.slice none 0 0) 24 Try.info_rowI rfl _ (by rfl) _ wn wk hw1 vals (by rfl) hvl (hsrc _ BL) (by unfold maxLen; omega) (by omega) ?_
          intro vO wO O atO BN
          change K (Act.put _ (some 53) vO) _
          have O := own_low O BL.size
          have PB := row_bel BN PB
          have C := cell_next BN C
          have BL := below_then BL BN
          refine hK.out _ _ ⟨(BL.cell (p := ⟨gw, 0, none⟩) (cell_lt s0)).trans s0, (BL.cell (p := ⟨gw, 1, none⟩) (cell_lt s1)).trans s1, (BL.cell (p := ⟨b, off + l, none⟩) (cell_lt s2)).trans s2⟩ (fun hHeld => ?_)
          clear hK K
          try simp only [Act.put, List.setIfInBounds_toArray, List.set_cons_zero, List.set_cons_succ]
          refine wpAnyH_ready (rs := [11]) (by kernel_rfl) (by simp) ?_
          refine AllReadyH.cons rfl (fun K hK => ?_) (AllReadyH.nil)
          refine step_append_own rfl (.tmp 53) (.tmp 60) 25 31 rfl Try.underlying25 (.slice none 0 0) 24 Try.info_rowI rfl w5.heap.size vO wn vals (by rfl) O _ 1 1 [.slice ra rl rc] (by rfl) rfl (one_cell C) (fun u hu => by rw [List.mem_singleton.1 hu]; rfl) (by unfold maxLen; omega) (by omega) BL.size ?_
          intro vQ wQ Q GQ
          change K (Act.put _ (some 61) vQ) _
          have PB := (GQ.block _ (Array.getElem?_eq_some_iff.1 PB).1 (own_off O PB (by decide))).trans PB
          have BL := BL.grown GQ BL.size (fun k hk => (O.lt k hk).1)
          obtain ⟨g1, c1, rfl, hg1, hg1l⟩ := own_shape Q (by omega)
          refine hK.out _ _ ⟨(BL.cell (p := ⟨gw, 0, none⟩) (cell_lt s0)).trans s0, (BL.cell (p := ⟨gw, 1, none⟩) (cell_lt s1)).trans s1, (BL.cell (p := ⟨b, off + l, none⟩) (cell_lt s2)).trans s2⟩ (fun hHeld => ?_)
          clear hK K
          try simp only [Act.put, List.setIfInBounds_toArray, List.set_cons_zero, List.set_cons_succ]
          refine wpAnyH_take (i := 15) (v := ?_) rfl (by kernel_rfl) (by kernel_rfl) (by kernel_rfl) (fun _ _ _ h => h) (Or.inl ⟨by rfl, ?_⟩) (by assumption) ?_
          rotate_left
          · (intro wq hSw; (try dsimp only at hSw); go_simp; (try rw [if_pos hle, if_neg hne0]); try with_reducible rfl)
          try simp only [Act.put, List.setIfInBounds_toArray, List.set_cons_zero, List.set_cons_succ]
          refine wpAnyH_ready (rs := [17]) (by kernel_rfl) (by simp) ?_
          refine AllReadyH.cons rfl (fun K hK => ?_) (AllReadyH.nil)
          have k0 := cell_of_row _ _ 0 _ _ _ PB
          have k1 := cell_of_row _ _ 1 _ _ _ PB
          simp only [List.getElem?_toArray, List.getElem?_cons_zero, List.getElem?_cons_succ] at k0 k1
          have f0 := frozen_of_row _ _ 0 _ _ PB
          have f1 := frozen_of_row _ _ 1 _ _ PB
          go_simp
          have BF := two_bel (.slice (some ⟨g1, 0, none⟩) (wn + 1) c1) (.int .i64 ((l : Int) + 1)) BL hgBl
          refine hK.out _ _ ⟨(BF.cell (p := ⟨gw, 0, none⟩) (cell_lt s0)).trans s0, (BF.cell (p := ⟨gw, 1, none⟩) (cell_lt s1)).trans s1, (BF.cell (p := ⟨b, off + l, none⟩) (cell_lt s2)).trans s2⟩ (fun hHeld => ?_)
          clear hK K
          refine wpAnyH_done (by kernel_rfl) ?_ _
          refine NoPanic.normal ?_
          try simp only [List.getElem_toArray, List.getElem_cons_succ, List.getElem_cons_zero, Act.put, List.setIfInBounds_toArray, List.set_cons_zero, List.set_cons_succ]
          go_wp2_with fail
          go_meet
          have hne : g1 ≠ _ := fun h => own_off Q PB (by decide) (congrArg some h.symm)
          exact ⟨_, g1, c1, rfl, hgBl, two_row _ _ _ _ PB, own_word Q (two_oth _ _ _ hne) ((hvr.turn hvl hl hlv).mono BF), BF⟩
      · skip
        go_simp
        obtain ⟨hgBl, PB⟩ := box_new BL #[.slice none 0 0, .int .i64 0] 27
        try simp only [World.size_alloc, size_drew] at hgBl PB
        have BL := bel_alloc BL (.cells #[.slice none 0 0, .int .i64 0] 27)
        refine hK.out _ _ ⟨(BL.cell (p := ⟨gw, 0, none⟩) (cell_lt s0)).trans s0, (BL.cell (p := ⟨gw, 1, none⟩) (cell_lt s1)).trans s1, (BL.cell (p := ⟨b, off + l, none⟩) (cell_lt s2)).trans s2⟩ (fun hHeld => ?_)
        clear hK K
        try simp only [Act.put, List.setIfInBounds_toArray, List.set_cons_zero, List.set_cons_succ]
        refine wpAnyH_ready (rs := [0, 10]) (by kernel_rfl) (by simp) ?_
        refine AllReadyH.cons rfl (fun K hK => ?_) (AllReadyH.cons rfl (fun K hK => ?_) (AllReadyH.nil))
        · skip
          go_simp
          have BL := bel_alloc BL (.cells #[] 31)
          have PB := row_alloc (.cells #[] 31) PB
          refine hK.out _ _ ⟨(BL.cell (p := ⟨gw, 0, none⟩) (cell_lt s0)).trans s0, (BL.cell (p := ⟨gw, 1, none⟩) (cell_lt s1)).trans s1, (BL.cell (p := ⟨b, off + l, none⟩) (cell_lt s2)).trans s2⟩ (fun hHeld => ?_)
          clear hK K
          try simp only [Act.put, List.setIfInBounds_toArray, List.set_cons_zero, List.set_cons_succ]
          refine wpAnyH_ready (rs := [3, 10]) (by kernel_rfl) (by simp) ?_
          refine AllReadyH.cons rfl (fun K hK => ?_) (AllReadyH.cons rfl (fun K hK => ?_) (AllReadyH.nil))
          · skip
            refine step_append_fresh rfl (.tmp 50) (.tmp 52) 25 31 rfl Try.underlying25 (.slice none 0 0) 24 Try.info_rowI rfl _ (by rfl) _ wn wk hw1 vals (by rfl) hvl (hsrc _ BL) (by unfold maxLen; omega) (by omega) ?_
            intro vO wO O atO BN
            change K (Act.put _ (some 53) vO) _
            have O := own_low O BL.size
            have PB := row_bel BN PB
            have BL := below_then BL BN
            refine hK.out _ _ ⟨(BL.cell (p := ⟨gw, 0, none⟩) (cell_lt s0)).trans s0, (BL.cell (p := ⟨gw, 1, none⟩) (cell_lt s1)).trans s1, (BL.cell (p := ⟨b, off + l, none⟩) (cell_lt s2)).trans s2⟩ (fun hHeld => ?_)
            clear hK K
            try simp only [Act.put, List.setIfInBounds_toArray, List.set_cons_zero, List.set_cons_succ]
            refine wpAnyH_ready (rs := [10]) (by kernel_rfl) (by simp) ?_
            refine AllReadyH.cons rfl (fun K hK => ?_) (AllReadyH.nil)
            go_simp
            have C := cell_new_at _ (.slice ra rl rc) 31 BL
            try simp only [World.size_alloc, size_drew] at C
            have BL := bel_alloc BL (.cells #[.slice ra rl rc] 31)
            have O := O.alloc (.cells #[.slice ra rl rc] 31)
            have PB := row_alloc (.cells #[.slice ra rl rc] 31) PB
            refine hK.out _ _ ⟨(BL.cell (p := ⟨gw, 0, none⟩) (cell_lt s0)).trans s0, (BL.cell (p := ⟨gw, 1, none⟩) (cell_lt s1)).trans s1, (BL.cell (p := ⟨b, off + l, none⟩) (cell_lt s2)).trans s2⟩ (fun hHeld => ?_)
            clear hK K
            try simp only [Act.put, List.setIfInBounds_toArray, List.set_cons_zero, List.set_cons_succ]
            refine wpAnyH_ready (rs := [11]) (by kernel_rfl) (by simp) ?_
            refine AllReadyH.cons rfl (fun K hK => ?_) (AllReadyH.nil)
            refine step_append_own rfl (.tmp 53) (.tmp 60) 25 31 rfl Try.underlying25 (.slice none 0 0) 24 Try.info_rowI rfl w5.heap.size vO wn vals (by rfl) O _ 1 1 [.slice ra rl rc] (by rfl) rfl (one_cell C) (fun u hu => by rw [List.mem_singleton.1 hu]; rfl) (by unfold maxLen; omega) (by omega) BL.size ?_
            intro vQ wQ Q GQ
            change K (Act.put _ (some 61) vQ) _
            have PB := (GQ.block _ (Array.getElem?_eq_some_iff.1 PB).1 (own_off O PB (by decide))).trans PB
            have BL := BL.grown GQ BL.size (fun k hk => (O.lt k hk).1)
            obtain ⟨g1, c1, rfl, hg1, hg1l⟩ := own_shape Q (by omega)
            refine hK.out _ _ ⟨(BL.cell (p := ⟨gw, 0, none⟩) (cell_lt s0)).trans s0, (BL.cell (p := ⟨gw, 1, none⟩) (cell_lt s1)).trans s1, (BL.cell (p := ⟨b, off + l, none⟩) (cell_lt s2)).trans s2⟩ (fun hHeld => ?_)
            clear hK K
            try simp only [Act.put, List.setIfInBounds_toArray, List.set_cons_zero, List.set_cons_succ]
            refine wpAnyH_take (i := 15) (v := ?_) rfl (by kernel_rfl) (by kernel_rfl) (by kernel_rfl) (fun _ _ _ h => h) (Or.inl ⟨by rfl, ?_⟩) (by assumption) ?_
            rotate_left
            · (intro wq hSw; (try dsimp only at hSw); go_simp; (try rw [if_pos hle, if_neg hne0]); try with_reducible rfl)
            try simp only [Act.put, List.setIfInBounds_toArray, List.set_cons_zero, List.set_cons_succ]
            refine wpAnyH_ready (rs := [17]) (by kernel_rfl) (by simp) ?_
            refine AllReadyH.cons rfl (fun K hK => ?_) (AllReadyH.nil)
            have k0 := cell_of_row _ _ 0 _ _ _ PB
            have k1 := cell_of_row _ _ 1 _ _ _ PB
            simp only [List.getElem?_toArray, List.getElem?_cons_zero, List.getElem?_cons_succ] at k0 k1
            have f0 := frozen_of_row _ _ 0 _ _ PB
            have f1 := frozen_of_row _ _ 1 _ _ PB
            go_simp
            have BF := two_bel (.slice (some ⟨g1, 0, none⟩) (wn + 1) c1) (.int .i64 ((l : Int) + 1)) BL hgBl
            refine hK.out _ _ ⟨(BF.cell (p := ⟨gw, 0, none⟩) (cell_lt s0)).trans s0, (BF.cell (p := ⟨gw, 1, none⟩) (cell_lt s1)).trans s1, (BF.cell (p := ⟨b, off + l, none⟩) (cell_lt s2)).trans s2⟩ (fun hHeld => ?_)
            clear hK K
            refine wpAnyH_done (by kernel_rfl) ?_ _
            refine NoPanic.normal ?_
            try simp only [List.getElem_toArray, List.getElem_cons_succ, List.getElem_cons_zero, Act.put, List.setIfInBounds_toArray, List.set_cons_zero, List.set_cons_succ]
            go_wp2_with fail
            go_meet
            have hne : g1 ≠ _ := fun h => own_off Q PB (by decide) (congrArg some h.symm)
            exact ⟨_, g1, c1, rfl, hgBl, two_row _ _ _ _ PB, own_word Q (two_oth _ _ _ hne) ((hvr.turn hvl hl hlv).mono BF), BF⟩
          · skip
            go_simp
            have C := cell_new_at _ (.slice ra rl rc) 31 BL
            try simp only [World.size_alloc, size_drew] at C
            have BL := bel_alloc BL (.cells #[.slice ra rl rc] 31)
            have PB := row_alloc (.cells #[.slice ra rl rc] 31) PB
            refine hK.out _ _ ⟨(BL.cell (p := ⟨gw, 0, none⟩) (cell_lt s0)).trans s0, (BL.cell (p := ⟨gw, 1, none⟩) (cell_lt s1)).trans s1, (BL.cell (p := ⟨b, off + l, none⟩) (cell_lt s2)).trans s2⟩ (fun hHeld => ?_)
            clear hK K
            try simp only [Act.put, List.setIfInBounds_toArray, List.set_cons_zero, List.set_cons_succ]
            refine wpAnyH_ready (rs := [3]) (by kernel_rfl) (by simp) ?_
            refine AllReadyH.cons rfl (fun K hK => ?_) (AllReadyH.nil)
            refine step_append_fresh rfl (.tmp 50) (.tmp 52) 25 31 rfl Try.underlying25 (.slice none 0 0) 24 Try.info_rowI rfl _ (by rfl) _ wn wk hw1 vals (by rfl) hvl (hsrc _ BL) (by unfold maxLen; omega) (by omega) ?_
            intro vO wO O atO BN
            change K (Act.put _ (some 53) vO) _
            have O := own_low O BL.size
            have PB := row_bel BN PB
            have C := cell_next BN C
            have BL := below_then BL BN
            refine hK.out _ _ ⟨(BL.cell (p := ⟨gw, 0, none⟩) (cell_lt s0)).trans s0, (BL.cell (p := ⟨gw, 1, none⟩) (cell_lt s1)).trans s1, (BL.cell (p := ⟨b, off + l, none⟩) (cell_lt s2)).trans s2⟩ (fun hHeld => ?_)
            clear hK K
            try simp only [Act.put, List.setIfInBounds_toArray, List.set_cons_zero, List.set_cons_succ]
            refine wpAnyH_ready (rs := [11]) (by kernel_rfl) (by simp) ?_
            refine AllReadyH.cons rfl (fun K hK => ?_) (AllReadyH.nil)
            refine step_append_own rfl (.tmp 53) (.tmp 60) 25 31 rfl Try.underlying25 (.slice none 0 0) 24 Try.info_rowI rfl w5.heap.size vO wn vals (by rfl) O _ 1 1 [.slice ra rl rc] (by rfl) rfl (one_cell C) (fun u hu => by rw [List.mem_singleton.1 hu]; rfl) (by unfold maxLen; omega) (by omega) BL.size ?_
            intro vQ wQ Q GQ
            change K (Act.put _ (some 61) vQ) _
            have PB := (GQ.block _ (Array.getElem?_eq_some_iff.1 PB).1 (own_off O PB (by decide))).trans PB
            have BL := BL.grown GQ BL.size (fun k hk => (O.lt k hk).1)
            obtain ⟨g1, c1, rfl, hg1, hg1l⟩ := own_shape Q (by omega)
            refine hK.out _ _ ⟨(BL.cell (p := ⟨gw, 0, none⟩) (cell_lt s0)).trans s0, (BL.cell (p := ⟨gw, 1, none⟩) (cell_lt s1)).trans s1, (BL.cell (p := ⟨b, off + l, none⟩) (cell_lt s2)).trans s2⟩ (fun hHeld => ?_)
            clear hK K
            try simp only [Act.put, List.setIfInBounds_toArray, List.set_cons_zero, List.set_cons_succ]
            refine wpAnyH_take (i := 15) (v := ?_) rfl (by kernel_rfl) (by kernel_rfl) (by kernel_rfl) (fun _ _ _ h => h) (Or.inl ⟨by rfl, ?_⟩) (by assumption) ?_
            rotate_left
            · (intro wq hSw; (try dsimp only at hSw); go_simp; (try rw [if_pos hle, if_neg hne0]); try with_reducible rfl)
            try simp only [Act.put, List.setIfInBounds_toArray, List.set_cons_zero, List.set_cons_succ]
            refine wpAnyH_ready (rs := [17]) (by kernel_rfl) (by simp) ?_
            refine AllReadyH.cons rfl (fun K hK => ?_) (AllReadyH.nil)
            have k0 := cell_of_row _ _ 0 _ _ _ PB
            have k1 := cell_of_row _ _ 1 _ _ _ PB
            simp only [List.getElem?_toArray, List.getElem?_cons_zero, List.getElem?_cons_succ] at k0 k1
            have f0 := frozen_of_row _ _ 0 _ _ PB
            have f1 := frozen_of_row _ _ 1 _ _ PB
            go_simp
            have BF := two_bel (.slice (some ⟨g1, 0, none⟩) (wn + 1) c1) (.int .i64 ((l : Int) + 1)) BL hgBl
            refine hK.out _ _ ⟨(BF.cell (p := ⟨gw, 0, none⟩) (cell_lt s0)).trans s0, (BF.cell (p := ⟨gw, 1, none⟩) (cell_lt s1)).trans s1, (BF.cell (p := ⟨b, off + l, none⟩) (cell_lt s2)).trans s2⟩ (fun hHeld => ?_)
            clear hK K
            refine wpAnyH_done (by kernel_rfl) ?_ _
            refine NoPanic.normal ?_
            try simp only [List.getElem_toArray, List.getElem_cons_succ, List.getElem_cons_zero, Act.put, List.setIfInBounds_toArray, List.set_cons_zero, List.set_cons_succ]
            go_wp2_with fail
            go_meet
            have hne : g1 ≠ _ := fun h => own_off Q PB (by decide) (congrArg some h.symm)
            exact ⟨_, g1, c1, rfl, hgBl, two_row _ _ _ _ PB, own_word Q (two_oth _ _ _ hne) ((hvr.turn hvl hl hlv).mono BF), BF⟩
        · skip
          go_simp
          have C := cell_new_at _ (.slice ra rl rc) 31 BL
          try simp only [World.size_alloc, size_drew] at C
          have BL := bel_alloc BL (.cells #[.slice ra rl rc] 31)
          have PB := row_alloc (.cells #[.slice ra rl rc] 31) PB
          refine hK.out _ _ ⟨(BL.cell (p := ⟨gw, 0, none⟩) (cell_lt s0)).trans s0, (BL.cell (p := ⟨gw, 1, none⟩) (cell_lt s1)).trans s1, (BL.cell (p := ⟨b, off + l, none⟩) (cell_lt s2)).trans s2⟩ (fun hHeld => ?_)
          clear hK K
          try simp only [Act.put, List.setIfInBounds_toArray, List.set_cons_zero, List.set_cons_succ]
          refine wpAnyH_ready (rs := [0]) (by kernel_rfl) (by simp) ?_
          refine AllReadyH.cons rfl (fun K hK => ?_) (AllReadyH.nil)
          go_simp
          have BL := bel_alloc BL (.cells #[] 31)
          have PB := row_alloc (.cells #[] 31) PB
          have C := cellAlloc _ (.cells #[] 31) C
          refine hK.out _ _ ⟨(BL.cell (p := ⟨gw, 0, none⟩) (cell_lt s0)).trans s0, (BL.cell (p := ⟨gw, 1, none⟩) (cell_lt s1)).trans s1, (BL.cell (p := ⟨b, off + l, none⟩) (cell_lt s2)).trans s2⟩ (fun hHeld => ?_)
          clear hK K
          try simp only [Act.put, List.setIfInBounds_toArray, List.set_cons_zero, List.set_cons_succ]
          refine wpAnyH_ready (rs := [3]) (by kernel_rfl) (by simp) ?_
          refine AllReadyH.cons rfl (fun K hK => ?_) (AllReadyH.nil)
          refine step_append_fresh rfl (.tmp 50) (.tmp 52) 25 31 rfl Try.underlying25 (.slice none 0 0) 24 Try.info_rowI rfl _ (by rfl) _ wn wk hw1 vals (by rfl) hvl (hsrc _ BL) (by unfold maxLen; omega) (by omega) ?_
          intro vO wO O atO BN
          change K (Act.put _ (some 53) vO) _
          have O := own_low O BL.size
          have PB := row_bel BN PB
          have C := cell_next BN C
          have BL := below_then BL BN
          refine hK.out _ _ ⟨(BL.cell (p := ⟨gw, 0, none⟩) (cell_lt s0)).trans s0, (BL.cell (p := ⟨gw, 1, none⟩) (cell_lt s1)).trans s1, (BL.cell (p := ⟨b, off + l, none⟩) (cell_lt s2)).trans s2⟩ (fun hHeld => ?_)
          clear hK K
          try simp only [Act.put, List.setIfInBounds_toArray, List.set_cons_zero, List.set_cons_succ]
          refine wpAnyH_ready (rs := [11]) (by kernel_rfl) (by simp) ?_
          refine AllReadyH.cons rfl (fun K hK => ?_) (AllReadyH.nil)
          refine step_append_own rfl (.tmp 53) (.tmp 60) 25 31 rfl Try.underlying25 (.slice none 0 0) 24 Try.info_rowI rfl w5.heap.size vO wn vals (by rfl) O _ 1 1 [.slice ra rl rc] (by rfl) rfl (one_cell C) (fun u hu => by rw [List.mem_singleton.1 hu]; rfl) (by unfold maxLen; omega) (by omega) BL.size ?_
          intro vQ wQ Q GQ
          change K (Act.put _ (some 61) vQ) _
          have PB := (GQ.block _ (Array.getElem?_eq_some_iff.1 PB).1 (own_off O PB (by decide))).trans PB
          have BL := BL.grown GQ BL.size (fun k hk => (O.lt k hk).1)
          obtain ⟨g1, c1, rfl, hg1, hg1l⟩ := own_shape Q (by omega)
          refine hK.out _ _ ⟨(BL.cell (p := ⟨gw, 0, none⟩) (cell_lt s0)).trans s0, (BL.cell (p := ⟨gw, 1, none⟩) (cell_lt s1)).trans s1, (BL.cell (p := ⟨b, off + l, none⟩) (cell_lt s2)).trans s2⟩ (fun hHeld => ?_)
          clear hK K
          try simp only [Act.put, List.setIfInBounds_toArray, List.set_cons_zero, List.set_cons_succ]
          refine wpAnyH_take (i := 15) (v := ?_) rfl (by kernel_rfl) (by kernel_rfl) (by kernel_rfl) (fun _ _ _ h => h) (Or.inl ⟨by rfl, ?_⟩) (by assumption) ?_
          rotate_left
          · (intro wq hSw; (try dsimp only at hSw); go_simp; (try rw [if_pos hle, if_neg hne0]); try with_reducible rfl)
          try simp only [Act.put, List.setIfInBounds_toArray, List.set_cons_zero, List.set_cons_succ]
          refine wpAnyH_ready (rs := [17]) (by kernel_rfl) (by simp) ?_
          refine AllReadyH.cons rfl (fun K hK => ?_) (AllReadyH.nil)
          have k0 := cell_of_row _ _ 0 _ _ _ PB
          have k1 := cell_of_row _ _ 1 _ _ _ PB
          simp only [List.getElem?_toArray, List.getElem?_cons_zero, List.getElem?_cons_succ] at k0 k1
          have f0 := frozen_of_row _ _ 0 _ _ PB
          have f1 := frozen_of_row _ _ 1 _ _ PB
          go_simp
          have BF := two_bel (.slice (some ⟨g1, 0, none⟩) (wn + 1) c1) (.int .i64 ((l : Int) + 1)) BL hgBl
          refine hK.out _ _ ⟨(BF.cell (p := ⟨gw, 0, none⟩) (cell_lt s0)).trans s0, (BF.cell (p := ⟨gw, 1, none⟩) (cell_lt s1)).trans s1, (BF.cell (p := ⟨b, off + l, none⟩) (cell_lt s2)).trans s2⟩ (fun hHeld => ?_)
          clear hK K
          refine wpAnyH_done (by kernel_rfl) ?_ _
          refine NoPanic.normal ?_
          try simp only [List.getElem_toArray, List.getElem_cons_succ, List.getElem_cons_zero, Act.put, List.setIfInBounds_toArray, List.set_cons_zero, List.set_cons_succ]
          go_wp2_with fail
          go_meet
          have hne : g1 ≠ _ := fun h => own_off Q PB (by decide) (congrArg some h.symm)
          exact ⟨_, g1, c1, rfl, hgBl, two_row _ _ _ _ PB, own_word Q (two_oth _ _ _ hne) ((hvr.turn hvl hl hlv).mono BF), BF⟩
    case rest =>
      obtain ⟨gy, g2, c2, rfl, hgy, py, hWy, b6⟩ := hcut
      rw [show ((l : Int) + 1) = ((l + 1 : Nat) : Int) by omega] at py
      obtain ⟨w6, hws⟩ : ∃ x, x = wc := ⟨_, rfl⟩
      subst hws
      clear ca0 ca1 ca2 ca3 cw0 cw1 cx0 cx1
      replace pa := (b6.block ga (Array.getElem?_eq_some_iff.1 pa).1).trans pa
      replace pw := (b6.block gw (Array.getElem?_eq_some_iff.1 pw).1).trans pw
      replace px := (b6.block gx (Array.getElem?_eq_some_iff.1 px).1).trans px
      replace hWx := hWx.mono b6
      replace bt := below_then bt b6
      have ca0 : w6.cell? ⟨ga, 0, none⟩ = some (.int .i64 oa) := cell_of_row _ _ 0 _ _ _ pa
      have ca1 : w6.cell? ⟨ga, 1, none⟩ = some (.int .i64 na) := cell_of_row _ _ 1 _ _ _ pa
      have ca2 : w6.cell? ⟨ga, 2, none⟩ = some (.int .i64 qa) := cell_of_row _ _ 2 _ _ _ pa
      have ca3 : w6.cell? ⟨ga, 3, none⟩ = some (.slice aa la ca) := cell_of_row _ _ 3 _ _ _ pa
      have cw0 : w6.cell? ⟨gw, 0, none⟩ = some (.slice (some ⟨b, off, none⟩) wn wk) := cell_of_row _ _ 0 _ _ _ pw
      have cw1 : w6.cell? ⟨gw, 1, none⟩ = some (.int .i64 (l : Nat)) := cell_of_row _ _ 1 _ _ _ pw
      have cx0 : w6.cell? ⟨gx, 0, none⟩ = some (.slice (some ⟨g1, 0, none⟩) N c1) := cell_of_row _ _ 0 _ _ _ px
      have cx1 : w6.cell? ⟨gx, 1, none⟩ = some (.int .i64 (wn : Nat)) := cell_of_row _ _ 1 _ _ _ px
      have cy0 : w6.cell? ⟨gy, 0, none⟩ = some (.slice (some ⟨g2, 0, none⟩) (wn + 1) c2) := cell_of_row _ _ 0 _ _ _ py
      have cy1 : w6.cell? ⟨gy, 1, none⟩ = some (.int .i64 ((l + 1 : Nat))) := cell_of_row _ _ 1 _ _ _ py
      go_wp2_with fail
      refine (all_any ta _ _ _ wn wk l row (hta.mono bt) (HR.out.mono bt) HFA.out (by omega) hl).mono ?_
      rintro e w7 ⟨⟨gp, rfl, _, rp⟩, b7⟩
      clear ca0 ca1 ca2 ca3 cw0 cw1 cx0 cx1 cy0 cy1
      replace pa := (b7.block ga (Array.getElem?_eq_some_iff.1 pa).1).trans pa
      replace pw := (b7.block gw (Array.getElem?_eq_some_iff.1 pw).1).trans pw
      replace px := (b7.block gx (Array.getElem?_eq_some_iff.1 px).1).trans px
      replace py := (b7.block gy (Array.getElem?_eq_some_iff.1 py).1).trans py
      replace hWx := hWx.mono b7
      replace hWy := hWy.mono b7
      replace bt := below_then bt b7
      have ca0 : w7.cell? ⟨ga, 0, none⟩ = some (.int .i64 oa) := cell_of_row _ _ 0 _ _ _ pa
      have ca1 : w7.cell? ⟨ga, 1, none⟩ = some (.int .i64 na) := cell_of_row _ _ 1 _ _ _ pa
      have ca2 : w7.cell? ⟨ga, 2, none⟩ = some (.int .i64 qa) := cell_of_row _ _ 2 _ _ _ pa
      have ca3 : w7.cell? ⟨ga, 3, none⟩ = some (.slice aa la ca) := cell_of_row _ _ 3 _ _ _ pa
      have cw0 : w7.cell? ⟨gw, 0, none⟩ = some (.slice (some ⟨b, off, none⟩) wn wk) := cell_of_row _ _ 0 _ _ _ pw
      have cw1 : w7.cell? ⟨gw, 1, none⟩ = some (.int .i64 (l : Nat)) := cell_of_row _ _ 1 _ _ _ pw
      have cx0 : w7.cell? ⟨gx, 0, none⟩ = some (.slice (some ⟨g1, 0, none⟩) N c1) := cell_of_row _ _ 0 _ _ _ px
      have cx1 : w7.cell? ⟨gx, 1, none⟩ = some (.int .i64 (wn : Nat)) := cell_of_row _ _ 1 _ _ _ px
      have cy0 : w7.cell? ⟨gy, 0, none⟩ = some (.slice (some ⟨g2, 0, none⟩) (wn + 1) c2) := cell_of_row _ _ 0 _ _ _ py
      have cy1 : w7.cell? ⟨gy, 1, none⟩ = some (.int .i64 ((l + 1 : Nat))) := cell_of_row _ _ 1 _ _ _ py
      go_wp2_with fail
      refine (all_any ta _ _ _ N _ wn _ (hta.mono bt) hWx HFA.out (by omega) (by omega)).mono ?_
      rintro e w8 ⟨⟨gq, rfl, _, rq⟩, b8⟩
      clear ca0 ca1 ca2 ca3 cw0 cw1 cx0 cx1 cy0 cy1
      replace pa := (b8.block ga (Array.getElem?_eq_some_iff.1 pa).1).trans pa
      replace pw := (b8.block gw (Array.getElem?_eq_some_iff.1 pw).1).trans pw
      replace px := (b8.block gx (Array.getElem?_eq_some_iff.1 px).1).trans px
      replace py := (b8.block gy (Array.getElem?_eq_some_iff.1 py).1).trans py
      replace hWx := hWx.mono b8
      replace hWy := hWy.mono b8
      replace rp := rp.mono b8
      replace bt := below_then bt b8
      have ca0 : w8.cell? ⟨ga, 0, none⟩ = some (.int .i64 oa) := cell_of_row _ _ 0 _ _ _ pa
      have ca1 : w8.cell? ⟨ga, 1, none⟩ = some (.int .i64 na) := cell_of_row _ _ 1 _ _ _ pa
      have ca2 : w8.cell? ⟨ga, 2, none⟩ = some (.int .i64 qa) := cell_of_row _ _ 2 _ _ _ pa
      have ca3 : w8.cell? ⟨ga, 3, none⟩ = some (.slice aa la ca) := cell_of_row _ _ 3 _ _ _ pa
      have cw0 : w8.cell? ⟨gw, 0, none⟩ = some (.slice (some ⟨b, off, none⟩) wn wk) := cell_of_row _ _ 0 _ _ _ pw
      have cw1 : w8.cell? ⟨gw, 1, none⟩ = some (.int .i64 (l : Nat)) := cell_of_row _ _ 1 _ _ _ pw
      have cx0 : w8.cell? ⟨gx, 0, none⟩ = some (.slice (some ⟨g1, 0, none⟩) N c1) := cell_of_row _ _ 0 _ _ _ px
      have cx1 : w8.cell? ⟨gx, 1, none⟩ = some (.int .i64 (wn : Nat)) := cell_of_row _ _ 1 _ _ _ px
      have cy0 : w8.cell? ⟨gy, 0, none⟩ = some (.slice (some ⟨g2, 0, none⟩) (wn + 1) c2) := cell_of_row _ _ 0 _ _ _ py
      have cy1 : w8.cell? ⟨gy, 1, none⟩ = some (.int .i64 ((l + 1 : Nat))) := cell_of_row _ _ 1 _ _ _ py
      go_wp2_with fail
      refine (all_any ta _ _ _ (wn + 1) _ (l + 1) _ (hta.mono bt) hWy HFA.out (by omega) (by omega)).mono ?_
      rintro e w9 ⟨⟨gr, rfl, _, rr⟩, b9⟩
      clear ca0 ca1 ca2 ca3 cw0 cw1 cx0 cx1 cy0 cy1
      replace pa := (b9.block ga (Array.getElem?_eq_some_iff.1 pa).1).trans pa
      replace pw := (b9.block gw (Array.getElem?_eq_some_iff.1 pw).1).trans pw
      replace px := (b9.block gx (Array.getElem?_eq_some_iff.1 px).1).trans px
      replace py := (b9.block gy (Array.getElem?_eq_some_iff.1 py).1).trans py
      replace hWx := hWx.mono b9
      replace hWy := hWy.mono b9
      replace rp := rp.mono b9
      replace rq := rq.mono b9
      replace bt := below_then bt b9
      have ca0 : w9.cell? ⟨ga, 0, none⟩ = some (.int .i64 oa) := cell_of_row _ _ 0 _ _ _ pa
      have ca1 : w9.cell? ⟨ga, 1, none⟩ = some (.int .i64 na) := cell_of_row _ _ 1 _ _ _ pa
      have ca2 : w9.cell? ⟨ga, 2, none⟩ = some (.int .i64 qa) := cell_of_row _ _ 2 _ _ _ pa
      have ca3 : w9.cell? ⟨ga, 3, none⟩ = some (.slice aa la ca) := cell_of_row _ _ 3 _ _ _ pa
      have cw0 : w9.cell? ⟨gw, 0, none⟩ = some (.slice (some ⟨b, off, none⟩) wn wk) := cell_of_row _ _ 0 _ _ _ pw
      have cw1 : w9.cell? ⟨gw, 1, none⟩ = some (.int .i64 (l : Nat)) := cell_of_row _ _ 1 _ _ _ pw
      have cx0 : w9.cell? ⟨gx, 0, none⟩ = some (.slice (some ⟨g1, 0, none⟩) N c1) := cell_of_row _ _ 0 _ _ _ px
      have cx1 : w9.cell? ⟨gx, 1, none⟩ = some (.int .i64 (wn : Nat)) := cell_of_row _ _ 1 _ _ _ px
      have cy0 : w9.cell? ⟨gy, 0, none⟩ = some (.slice (some ⟨g2, 0, none⟩) (wn + 1) c2) := cell_of_row _ _ 0 _ _ _ py
      have cy1 : w9.cell? ⟨gy, 1, none⟩ = some (.int .i64 ((l + 1 : Nat))) := cell_of_row _ _ 1 _ _ _ py
      go_upto_region 13 with fail
      have Hcw0 := Lib.hid cw0
      have Hcw1 := Lib.hid cw1
      have BT := Lib.hid bt
      have RP := Lib.hid rp
      have RQ := Lib.hid rq
      have RR := Lib.hid rr
      have HN := Lib.hid hN
      have b0 := Below.refl w9.heap.size w9
      clear bt rp rq rr hN hvl hvc hvr hlv clv hWx hWy hblt pa pw px py ca0 ca1 ca2 ca3 cw0 cw1 cx0 cx1 cy0 cy1
      go_loopw [12, 13] (fun i k w' => ∃ j : Nat, j ≤ N ∧ i = .int .i64 (j : Nat) ∧ Below w9.heap.size w9 w') (fun i _ _ => N - (intOf i).toNat)
      case atStart => exact ⟨0, Nat.zero_le _, rfl, b0⟩
      case round =>
        obtain ⟨j, hj, rfl, hb⟩ := hrel
        by_cases hjn : j < N
        · have f1 : decide (j < N) = true := by simpa using hjn
          have hN := HN.out
          have hfl : fold wn l j < wn := fold_lt hl (by omega)
          have e1 : hT N wn (fun i => row (fold wn l i)) ta j = hT wn l row ta (fold wn l j) := by
            have := hT_twice hl row ta j (by omega)
            rw [hN] at this
            exact this
          have k1 := cell_later (World.rowIs.cell (RQ.out.mono hb) hjn)
          have k2 := cell_later (World.rowIs.cell (RP.out.mono hb) hfl)
          try simp only [] at k1
          rw [e1] at k1
          have d0 := cell_later (cell_next hb Hcw0.out)
          have d1 := cell_later (cell_next hb Hcw1.out)
          have d0' := cell_next hb Hcw0.out
          have d1' := cell_next hb Hcw1.out
          obtain ⟨X, hX⟩ : ∃ X, hT wn l row ta (fold wn l j) = X := ⟨_, rfl⟩
          rw [hX] at k1 k2
          by_cases hjw : j < wn
          · have f2 : decide (wn ≤ j) = false := by simpa using hjw
            have f3 : decide (j ≤ wn) = true := by simp; omega
            have hk : fold wn l j = j := if_pos hjw
            have k3 := cell_later (World.rowIs.cell (RR.out.mono hb) (show j < wn + 1 by omega))
            rw [hT_turn hl row ta j (by omega), hX] at k3
            rw [hk] at k2
            clear e1 hX hN
            cases X
            all_goals
              go_wp2_with fail
              refine wp_region_later wr.heap.size wr (by kernel_rfl) (by kernel_rfl) (Below.refl _ _) ?_
              repeat (go_big_quiet_step (fail))
              refine wpQuiet_nil ?_
              intro _ hlat
              obtain ⟨z, rfl⟩ := hlat
              go_wp2_with fail
              exact ⟨⟨j + 1, by omega, by simp, below_then hb z.below⟩, by simp [intOf]; omega⟩
          · have f2 : decide (wn ≤ j) = true := by simp; omega
            have hk : ((l : Int) + (j : Int) - (wn : Int)) = ((fold wn l j : Nat) : Int) := by
              unfold fold
              rw [if_neg hjw]
              omega
            by_cases hjq : j ≤ wn
            · have f3 : decide (j ≤ wn) = true := by simpa using hjq
              have k3 := cell_later (World.rowIs.cell (RR.out.mono hb) (show j < wn + 1 by omega))
              rw [hT_turn hl row ta j (by omega), hX] at k3
              obtain ⟨q, hq⟩ : ∃ q, fold wn l j = q := ⟨_, rfl⟩
              rw [hq] at hk k2 hfl
              clear e1 hX hN hq
              go_upto_region 18 with fail
              try simp only [hk]
              cases X
              all_goals
                refine wp_region_later wr.heap.size wr (by kernel_rfl) (by kernel_rfl) (Below.refl _ _) ?_
                repeat (go_big_quiet_step (fail))
                refine wpQuiet_nil ?_
                intro _ hlat
                obtain ⟨z, rfl⟩ := hlat
                go_wp2_with fail
                exact ⟨⟨j + 1, by omega, by simp, below_then hb z.below⟩, by simp [intOf]; omega⟩
            · have f3 : decide (j ≤ wn) = false := by simpa using hjq
              obtain ⟨q, hq⟩ : ∃ q, fold wn l j = q := ⟨_, rfl⟩
              rw [hq] at hk k2 hfl
              clear e1 hX hN hq
              go_upto_region 18 with fail
              try simp only [hk]
              cases X
              all_goals
                refine wp_region_later wr.heap.size wr (by kernel_rfl) (by kernel_rfl) (Below.refl _ _) ?_
                repeat (go_big_quiet_step (fail))
                refine wpQuiet_nil ?_
                intro _ hlat
                obtain ⟨z, rfl⟩ := hlat
                go_wp2_with fail
                exact ⟨⟨j + 1, by omega, by simp, below_then hb z.below⟩, by simp [intOf]; omega⟩
        · have f1 : decide (j < N) = false := by simpa using hjn
          go_wp2_with fail
          go_ret
          exact ⟨rfl, below_then BT.out hb⟩
end Go.Proofs.Ytogdfjcgcdbnaaa
