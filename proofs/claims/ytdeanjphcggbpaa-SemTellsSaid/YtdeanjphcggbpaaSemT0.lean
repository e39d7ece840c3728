/- The document's All: its contract; literals (by gen17t.py). -/
import Derived.Test.YtdeanjphcggbpaaSemTU
import Derived.Deep.RegionHeld3
namespace Go.Proofs.Ytdeanjphcggbpaa
open Go.RowKit
set_option linter.unusedVariables false
set_option linter.unusedSimpArgs false
def KeepB (g : Nat) (v w : World) : Prop := v.heap.size ≤ w.heap.size ∧ ∀ k, k < v.heap.size → k ≠ g → w.heap[k]? = v.heap[k]?
theorem KeepB.refl (g : Nat) (v : World) : KeepB g v v := ⟨Nat.le_refl _, fun _ _ _ => rfl⟩
theorem KeepB.bel {g : Nat} {v a c : World} (h : KeepB g v a) (b : Below a.heap.size a c) : KeepB g v c := ⟨Nat.le_trans h.1 b.size, fun k hk hne => (b.block k (Nat.lt_of_lt_of_le hk h.1)).trans (h.2 k hk hne)⟩
theorem KeepB.set {g : Nat} {v a : World} (h : KeepB g v a) (i : Nat) (x : Value) : KeepB g v (a.setCell ⟨g, i, none⟩ x) := ⟨by simpa [World.setCell] using h.1, fun k hk hne => (Below.heap_setCell _ _ _ _ hne).trans (h.2 k hk hne)⟩
theorem KeepB.cell {g : Nat} {v w : World} (h : KeepB g v w) {p : Addr} {x : Value} (hc : v.cell? p = some x) (hne : p.block ≠ g) : w.cell? p = some x := (World.cell?_of_block (h.2 _ (World.block_lt_of_cell? v _ hc) hne)).trans hc
theorem KeepB.bools {g g' n : Nat} {v w : World} {f : Nat → Bool} (h : KeepB g v w) (hb : BoolsAt v g' n f) (hne : g' ≠ g) : BoolsAt w g' n f := World.rowIs.of_block hb (h.2 g' (World.rowIs.lt hb) hne)
theorem heap2 (w : World) (A B : Array Value) (t u : TypeId) : ((w.alloc (.cells A t)).alloc (.cells B u)).heap[w.heap.size]? = some (.cells A t (0, 0)) ∧ ((w.alloc (.cells A t)).alloc (.cells B u)).heap[w.heap.size + 1]? = some (.cells B u (0, 0)) ∧ Below w.heap.size w ((w.alloc (.cells A t)).alloc (.cells B u)) := by
  refine ⟨(Below.heap_alloc _ _ _ (by simp)).trans (heap_alloc_new _ _), ?_, ((Below.refl _ _).alloc (Nat.le_refl _) _).alloc (by simp) _⟩
  have h := heap_alloc_new (w.alloc (.cells A t)) (.cells B u)
  rw [World.size_alloc] at h
  exact h
theorem row_bel {w w' : World} {g : Nat} {o : Obj} (b : Below w.heap.size w w') (h : w.heap[g]? = some o) : w'.heap[g]? = some o := (b.block g (Array.getElem?_eq_some_iff.1 h).1).trans h
theorem cell_oth (w : World) (g i : Nat) (x : Value) {p : Addr} {v : Value} (h : p.block ≠ g) (hc : w.cell? p = some v) : (w.setCell ⟨g, i, none⟩ x).cell? p = some v := (World.cell?_of_block (Below.heap_setCell _ _ _ _ h)).trans hc
def MadeB (n : Nat) : Obj := .cells (madeCells #[Value.bool false] n) 4
theorem made1 (w : World) (n : Nat) : BoolsAt (w.alloc (.cells (madeCells #[Value.bool false] n) 4)) w.heap.size n (fun _ => false) ∧ Below w.heap.size w (w.alloc (.cells (madeCells #[Value.bool false] n) 4)) :=
  ⟨World.rowIs_made w (.bool false) n 4, (Below.refl _ _).alloc (Nat.le_refl _) _⟩
theorem made3 (w : World) (n : Nat) : BoolsAt (((w.alloc (.cells (madeCells #[Value.bool false] n) 4)).alloc (.cells (madeCells #[Value.bool false] n) 4)).alloc (.cells (madeCells #[Value.bool false] n) 4)) w.heap.size n (fun _ => false) ∧
    BoolsAt (((w.alloc (.cells (madeCells #[Value.bool false] n) 4)).alloc (.cells (madeCells #[Value.bool false] n) 4)).alloc (.cells (madeCells #[Value.bool false] n) 4)) (w.heap.size + 1) n (fun _ => false) ∧
    BoolsAt (((w.alloc (.cells (madeCells #[Value.bool false] n) 4)).alloc (.cells (madeCells #[Value.bool false] n) 4)).alloc (.cells (madeCells #[Value.bool false] n) 4)) (w.heap.size + 1 + 1) n (fun _ => false) ∧
    Below w.heap.size w (((w.alloc (.cells (madeCells #[Value.bool false] n) 4)).alloc (.cells (madeCells #[Value.bool false] n) 4)).alloc (.cells (madeCells #[Value.bool false] n) 4)) := by
  obtain ⟨h1, b1⟩ := made1 w n
  obtain ⟨h2, b2⟩ := made1 (w.alloc (.cells (madeCells #[Value.bool false] n) 4)) n
  obtain ⟨h3, b3⟩ := made1 ((w.alloc (.cells (madeCells #[Value.bool false] n) 4)).alloc (.cells (madeCells #[Value.bool false] n) 4)) n
  rw [World.size_alloc] at h2
  rw [World.size_alloc, World.size_alloc] at h3
  exact ⟨(h1.mono b2).mono b3, h2.mono b3, h3, below_then (below_then b1 b2) b3⟩
def AllR (t : T) : Prop := ∀ (w : World) (v : Value) (wa : Option Addr) (wn wk l : Nat) (row : Nat → List Int), TreeAt w t v → WordAt w wa wn row → FmP t → wn ≤ 1000000 → l < wn →
    Calls Try.prog 11 #[v, .agg #[.slice wa wn wk, .int .i64 (l : Nat)]] w fun e w' => BoolsOut w wn (hT wn l row t) e w' ∧ Below w.heap.size w w'
theorem upto_set (f : Nat → Bool) (j : Nat) (x : Bool) (hx : x = f j) (i : Nat) : (if i = j then Value.bool x else .bool (if i < j then f i else false)) = .bool (if i < j + 1 then f i else false) := by
  by_cases hij : i = j
  · subst hij; rw [if_pos rfl, if_pos (by omega), hx]
  · rw [if_neg hij]
    by_cases h2 : i < j
    · rw [if_pos h2, if_pos (by omega)]
    · rw [if_neg h2, if_neg (by omega)]
set_option maxRecDepth 20000 in
set_option maxHeartbeats 2000000 in
theorem allr_lit (t : T) (hty : tyT t = 2) : AllR t := by
  intro w v wa wn wk l row ht hr hf hwn hl
  obtain ⟨oa, na, qa, aa, la, ca, rfl⟩ := ht.shape
  have hmk := run_make_row' (P := Try.prog) 32 4 (.bool false) 1 Try.underlying32 Try.info_bool rfl .i64 .i64 wn (by omega) (by omega)
  obtain ⟨pe, pw, bt⟩ := heap2 w #[.int .i64 oa, .int .i64 na, .int .i64 qa, .slice aa la ca] #[.slice wa wn wk, .int .i64 (l : Nat)] 24 27
  go_enter Try.func11, Try.ntmps11
  go_upto_region 1 with fail
  obtain ⟨v2, hv⟩ : ∃ v, (w.alloc (.cells #[.int .i64 oa, .int .i64 na, .int .i64 qa, .slice aa la ca] 24)).alloc (.cells #[.slice wa wn wk, .int .i64 (l : Nat)] 27) = v := ⟨_, rfl⟩
  rw [hv] at pe pw bt ⊢
  obtain ⟨gw, hgw⟩ : ∃ g, w.heap.size + 1 = g := ⟨_, rfl⟩
  rw [hgw] at pw ⊢
  obtain ⟨ge, hge⟩ : ∃ g, w.heap.size = g := ⟨_, rfl⟩
  rw [hge] at pe ⊢
  clear hge hgw hv
  have w0 : v2.cell? ⟨gw, 0, none⟩ = some (.slice wa wn wk) := cell_of_row _ _ 0 _ _ _ pw
  have w1 : v2.cell? ⟨gw, 1, none⟩ = some (.int .i64 (l : Nat)) := cell_of_row _ _ 1 _ _ _ pw
  obtain ⟨hm0, bm⟩ := made1 v2 wn
  go_upto_region 3 with fail
  obtain ⟨v3, hv⟩ : ∃ v, v2.alloc (.cells (madeCells #[Value.bool false] wn) 4) = v := ⟨_, rfl⟩
  have hel := (Array.getElem?_eq_some_iff.1 pe).1
  have hwl := (Array.getElem?_eq_some_iff.1 pw).1
  obtain ⟨gs, hg⟩ : ∃ g, v2.heap.size = g := ⟨_, rfl⟩
  have hgs : w.heap.size ≤ gs := hg ▸ bt.size
  replace bt := below_then bt bm
  replace pe := row_bel bm pe
  replace pw := row_bel bm pw
  rw [hv] at hm0 bt pe pw ⊢
  rw [hg] at hm0 hel hwl ⊢
  clear hv hg bm w0 w1
  have e0 : v3.cell? ⟨ge, 0, none⟩ = some (.int .i64 oa) := cell_of_row _ _ 0 _ _ _ pe
  have e1 : v3.cell? ⟨ge, 1, none⟩ = some (.int .i64 na) := cell_of_row _ _ 1 _ _ _ pe
  have e2 : v3.cell? ⟨ge, 2, none⟩ = some (.int .i64 qa) := cell_of_row _ _ 2 _ _ _ pe
  have e3 : v3.cell? ⟨ge, 3, none⟩ = some (.slice aa la ca) := cell_of_row _ _ 3 _ _ _ pe
  go_wp2_with fail
  refine (lit_any _ t _ (ht.mono bt)).mono ?_
  rintro e w4 ⟨rfl, b4⟩
  rw [decide_eq_true hty]
  clear e0 e1 e2 e3
  replace pe := row_bel b4 pe
  replace pw := row_bel b4 pw
  replace hm0 := hm0.mono b4
  replace bt := below_then bt b4
  have HB := Lib.hid (show ∀ i, hT wn l row t i = decide (evT (row i) t = 1) from fun i => lit_hT wn l row t i hf.1 hty)
  have HM := Lib.hid ((hm0.congr fun i hi => by simp) : w4.rowIs gs 4 wn fun i => .bool (if i < 0 then hT wn l row t i else false))
  have K0 := KeepB.refl gs w4
  have BM := Lib.hid bt
  have HE0 := Lib.hid (cell_of_row _ _ 0 _ _ _ pe : w4.cell? ⟨ge, 0, none⟩ = some (.int .i64 oa))
  have HE1 := Lib.hid (cell_of_row _ _ 1 _ _ _ pe : w4.cell? ⟨ge, 1, none⟩ = some (.int .i64 na))
  have HE2 := Lib.hid (cell_of_row _ _ 2 _ _ _ pe : w4.cell? ⟨ge, 2, none⟩ = some (.int .i64 qa))
  have HE3 := Lib.hid (cell_of_row _ _ 3 _ _ _ pe : w4.cell? ⟨ge, 3, none⟩ = some (.slice aa la ca))
  have HW0 := Lib.hid (cell_of_row _ _ 0 _ _ _ pw : w4.cell? ⟨gw, 0, none⟩ = some (.slice wa wn wk))
  clear hm0 bt pe pw
  go_upto_region 6 with fail
  go_loopw [8] (fun i w' => ∃ j : Nat, j ≤ wn ∧ i = .int .i64 (j : Nat) ∧ Hid (w'.rowIs gs 4 wn fun i => .bool (if i < j then hT wn l row t i else false)) ∧ KeepB gs w4 w' ∧ Hid (Below w.heap.size w w')) (fun i _ => wn - (intOf i).toNat)
  case atStart => exact ⟨0, Nat.zero_le _, rfl, HM, K0, BM⟩
  case round =>
    clear HM K0 BM
    obtain ⟨j, hj, rfl, HM, KB, BT⟩ := hrel
    by_cases hjn : j < wn
    · have f1 : decide (j < wn) = true := by simpa using hjn
      obtain ⟨b, off, rfl, hlt, hri⟩ := (hr.mono BT.out).resolve_left (by omega)
      obtain ⟨ra, rl, rc, hc, hints⟩ := hri j hjn
      have q0 := cell_later (KB.cell HE0.out (Nat.ne_of_lt hel))
      have q1 := cell_later (KB.cell HE1.out (Nat.ne_of_lt hel))
      have q2 := cell_later (KB.cell HE2.out (Nat.ne_of_lt hel))
      have q3 := cell_later (KB.cell HE3.out (Nat.ne_of_lt hel))
      have q4 := cell_later (KB.cell HW0.out (Nat.ne_of_lt hwl))
      have hcL := cell_later hc
      have nE := fun z : Later wr.heap.size wr => refeval_any t z.w _ ra rl rc (row j) (ht.mono (below_then BT.out z.below)) (hints.mono z.below) hf.1 (.inr hty)
      have hbj := HB.out j
      obtain ⟨X, hX⟩ : ∃ X, evT (row j) t = X := ⟨_, rfl⟩
      rw [hX] at nE hbj
      have HBJ := Lib.hid hbj
      clear hX hc hints hri hbj
      go_wp2_with fail
      refine wp_region_later wr.heap.size wr (by kernel_rfl) (by kernel_rfl) (Below.refl _ _) ?_
      repeat (go_big_quiet_step (((go_at_call 35; refine Calls.later0 (nE _)))))
      refine wpQuiet_nil ?_
      intro _ hlat
      obtain ⟨z, rfl⟩ := hlat
      have HR := Lib.hid (HM.out.of_block (z.below.block _ HM.out.lt))
      have KZ := KB.bel z.below
      have BZ := Lib.hid (below_then BT.out z.below)
      have hcell := HR.out.cell hjn
      have hfr := HR.out.frozen j
      have hx : (decide (X = 1) = true ∧ (X == 1) = true) ∨ (decide (X = 1) = false ∧ (X == 1) = false) := by by_cases h : X = 1 <;> simp [h]
      rcases hx with ⟨hx, hxb⟩ | ⟨hx, hxb⟩
      all_goals
        go_wp2_with fail
        refine ⟨⟨j + 1, by omega, by simp, Lib.hid ((HR.out.set j _).congr fun i hi => upto_set _ j _ (by rw [HBJ.out, hx]; try simp [hxb]) i), KZ.set j _, Lib.hid (BZ.out.setCell hgs _)⟩, by simp [intOf]; omega⟩
    · have f1 : decide (j < wn) = false := by simpa using hjn
      obtain rfl : j = wn := by omega
      go_wp2_with fail
      go_ret
      exact ⟨⟨gs, rfl, hgs, HM.out.congr fun i hi => by rw [if_pos hi]⟩, BT.out⟩
end Go.Proofs.Ytdeanjphcggbpaa
