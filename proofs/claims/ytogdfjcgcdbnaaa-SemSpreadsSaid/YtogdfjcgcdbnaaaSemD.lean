/- sem.All: the contract; what it comes to, kind by kind (by gen17h.py). -/
import Derived.Test.YtogdfjcgcdbnaaaSemC
import Derived.Deep.RegionHeld3
namespace Go.Proofs.Ytogdfjcgcdbnaaa
open Go.RowKit
set_option linter.unusedVariables false
set_option linter.unusedSimpArgs false
def AllOK (t : T) : Prop := ∀ (w : World) (v : Value) (wa : Option Addr) (wn wk l : Nat) (row : Nat → List Int), TreeAt w t v → WordAt w wa wn row → FmP t → wn ≤ 1000000 → l < wn →
    Calls Try.prog 11 #[v, .agg #[.slice wa wn wk, .int .i64 (l : Nat)]] w fun e w' => BoolsOut w wn (hT wn l row t) e w' ∧ Below w.heap.size w w'
theorem BoolsAt.congr {w : World} {g n : Nat} {f h : Nat → Bool} (hb : BoolsAt w g n f) (hf : ∀ i, i < n → f i = h i) : BoolsAt w g n h := World.rowIs.congr hb fun i hi => by rw [hf i hi]
theorem BoolsOut.up {w v w' : World} {n : Nat} {f h : Nat → Bool} {e : Ending} (hb : BoolsOut v n f e w') (hs : w.heap.size ≤ v.heap.size) (hf : ∀ i, i < n → f i = h i) : BoolsOut w n h e w' := by
  obtain ⟨g, he, hg, hr⟩ := hb
  exact ⟨g, he, Nat.le_trans hs hg, hr.congr hf⟩
theorem BoolsAt.other {w w' : World} {g n : Nat} {f : Nat → Bool} (hb : BoolsAt w g n f) (h : w'.heap[g]? = w.heap[g]?) : BoolsAt w' g n f := by
  obtain ⟨o, ho⟩ : ∃ o, w.heap[g]? = some o := ⟨w.heap[g]'(World.rowIs.lt hb), Array.getElem?_eq_getElem _⟩
  exact World.rowIs.of_block hb h
theorem cellSet (w : World) (g : Nat) (y : Value) {b o : Nat} {x : Value} (hne : b ≠ g) (h : w.cell? ⟨b, o, none⟩ = some x) : (w.setCell ⟨g, 0, none⟩ y).cell? ⟨b, o, none⟩ = some x := by
  rw [World.cell?_setCell_other _ _ _ _ (by simp [hne])]
  exact h
theorem one_row (w : World) (g : Nat) (v x : Value) (t : TypeId) (h : w.heap[g]? = some (.cells #[x] t (0, 0))) : (w.setCell ⟨g, 0, none⟩ v).heap[g]? = some (.cells #[v] t (0, 0)) := Joins.block_setCell (i := 0) h v
theorem hT_15 (wn l : Nat) (row : Nat → List Int) (m pl : Int) (len : Nat) (sub : Nat → T) (i : Nat) : hT wn l row (.node 15 m pl len sub) i = (!(hT wn l row (sub 0)) i) := by
  rw [hT]
  simp
theorem hT_16 (wn l : Nat) (row : Nat → List Int) (m pl : Int) (len : Nat) (sub : Nat → T) (i : Nat) : hT wn l row (.node 16 m pl len sub) i = ((hT wn l row (sub 0)) i && (hT wn l row (sub 1)) i) := by
  rw [hT]
  simp
theorem hT_17 (wn l : Nat) (row : Nat → List Int) (m pl : Int) (len : Nat) (sub : Nat → T) (i : Nat) : hT wn l row (.node 17 m pl len sub) i = ((hT wn l row (sub 0)) i || (hT wn l row (sub 1)) i) := by
  rw [hT]
  simp
theorem hT_18 (wn l : Nat) (row : Nat → List Int) (m pl : Int) (len : Nat) (sub : Nat → T) (i : Nat) : hT wn l row (.node 18 m pl len sub) i = (!(hT wn l row (sub 0)) i || (hT wn l row (sub 1)) i) := by
  rw [hT]
  simp
theorem hT_19 (wn l : Nat) (row : Nat → List Int) (m pl : Int) (len : Nat) (sub : Nat → T) (i : Nat) : hT wn l row (.node 19 m pl len sub) i = ((hT wn l row (sub 0)) i == (hT wn l row (sub 1)) i) := by
  rw [hT]
  simp
theorem hT_20 (wn l : Nat) (row : Nat → List Int) (m pl : Int) (len : Nat) (sub : Nat → T) (i : Nat) : hT wn l row (.node 20 m pl len sub) i = ((hT wn l row (sub 0)) (nextW wn l i)) := by
  rw [hT]
  simp
theorem hT_21 (wn l : Nat) (row : Nat → List Int) (m pl : Int) (len : Nat) (sub : Nat → T) (i : Nat) : hT wn l row (.node 21 m pl len sub) i = (untU wn l (fun _ => true) (hT wn l row (sub 0)) i) := by
  rw [hT]
  simp
theorem hT_22 (wn l : Nat) (row : Nat → List Int) (m pl : Int) (len : Nat) (sub : Nat → T) (i : Nat) : hT wn l row (.node 22 m pl len sub) i = (relU wn l (fun _ => false) (hT wn l row (sub 0)) i) := by
  rw [hT]
  simp
theorem hT_23 (wn l : Nat) (row : Nat → List Int) (m pl : Int) (len : Nat) (sub : Nat → T) (i : Nat) : hT wn l row (.node 23 m pl len sub) i = (untU wn l (hT wn l row (sub 0)) (hT wn l row (sub 1)) i) := by
  rw [hT]
  simp
theorem hT_24 (wn l : Nat) (row : Nat → List Int) (m pl : Int) (len : Nat) (sub : Nat → T) (i : Nat) : hT wn l row (.node 24 m pl len sub) i = (relU wn l (hT wn l row (sub 0)) (hT wn l row (sub 1)) i) := by
  rw [hT]
  simp
set_option maxRecDepth 20000 in
set_option maxHeartbeats 2000000 in
theorem all_lit (op n pl : Int) (len : Nat) (sub : Nat → T) (hop : op < 15) : AllOK (.node op n pl len sub) := by
  intro w v wa wn wk l row ht hr hf hwn hl
  have ht2 := ht
  obtain ⟨a, cap, rfl, ho, hn, hp, hln, hnone, hat⟩ := ht
  obtain ⟨hm, hty⟩ := hf
  have hty2 : tyT (.node op n pl len sub) = 1 ∨ (tyT (.node op n pl len sub) ≠ 0 ∧ T.opOf (.node op n pl len sub) ≤ 14) := .inr ⟨by omega, by show op ≤ 14; omega⟩
  have f1 : decide (op < 15) = true := by simpa using hop
  have HT2 := Lib.hid ht2
  have HAT := Lib.hid hat
  clear ht2 hat
  have A := (Below.refl w.heap.size w).alloc (Nat.le_refl _) (.cells #[.int .i64 op, .int .i64 n, .int .i64 pl, .slice a len cap] 24)
  have pe : (w.alloc (.cells #[.int .i64 op, .int .i64 n, .int .i64 pl, .slice a len cap] 24)).heap[w.heap.size]? = some (.cells #[.int .i64 op, .int .i64 n, .int .i64 pl, .slice a len cap] 24 (0, 0)) := heap_alloc_new _ _
  have A2 := (Below.refl (w.alloc (.cells #[.int .i64 op, .int .i64 n, .int .i64 pl, .slice a len cap] 24)).heap.size (w.alloc (.cells #[.int .i64 op, .int .i64 n, .int .i64 pl, .slice a len cap] 24))).alloc (Nat.le_refl _) (.cells #[.slice wa wn wk, .int .i64 (l : Nat)] 27)
  have pw : ((w.alloc (.cells #[.int .i64 op, .int .i64 n, .int .i64 pl, .slice a len cap] 24)).alloc (.cells #[.slice wa wn wk, .int .i64 (l : Nat)] 27)).heap[(w.alloc (.cells #[.int .i64 op, .int .i64 n, .int .i64 pl, .slice a len cap] 24)).heap.size]? = some (.cells #[.slice wa wn wk, .int .i64 (l : Nat)] 27 (0, 0)) := heap_alloc_new _ _
  replace pe := (A2.block w.heap.size (by simp)).trans pe
  have bt := below_then A A2
  go_enter Try.func11, Try.ntmps11
  go_upto_region 1 with fail
  obtain ⟨v2, hv⟩ : ∃ v, (w.alloc (.cells #[.int .i64 op, .int .i64 n, .int .i64 pl, .slice a len cap] 24)).alloc (.cells #[.slice wa wn wk, .int .i64 (l : Nat)] 27) = v := ⟨_, rfl⟩
  rw [World.size_alloc] at pw
  rw [hv] at pe pw bt ⊢
  obtain ⟨ge, hge⟩ : ∃ g, w.heap.size = g := ⟨_, rfl⟩
  rw [hge] at pe pw ⊢
  obtain ⟨gw, hgw⟩ : ∃ g, ge + 1 = g := ⟨_, rfl⟩
  rw [hgw] at pw ⊢
  have hgE : w.heap.size ≤ ge := Nat.le_of_eq hge
  have hgW : w.heap.size ≤ gw := by omega
  clear hv hge hgw A A2
  have e0 : v2.cell? ⟨ge, 0, none⟩ = some (.int .i64 op) := cell_of_row _ _ 0 _ _ _ pe
  have w0 : v2.cell? ⟨gw, 0, none⟩ = some (.slice wa wn wk) := cell_of_row _ _ 0 _ _ _ pw
  have w1 : v2.cell? ⟨gw, 1, none⟩ = some (.int .i64 (l : Nat)) := cell_of_row _ _ 1 _ _ _ pw
  go_wp2_with fail
  refine (each_gen v2 wa wn wk (l : Nat) 31 #[.pointer (some ⟨ge, 0, none⟩), .pointer (some ⟨gw, 0, none⟩)] (fun i => decide (evT (row i) (.node op n pl len sub) = 1)) (enters_of Try.func31 (by kernel_rfl) rfl) hwn (fun z i hi => cl_lit z.w ge gw wn wk (l : Nat) wa row op n pl a len cap _ i hi hwn ((z.below.block ge (Array.getElem?_eq_some_iff.1 pe).1).trans pe) ((z.below.block gw (Array.getElem?_eq_some_iff.1 pw).1).trans pw) (HT2.out.mono (below_then bt z.below)) (hr.mono (below_then bt z.below)) hm hty2)).mono ?_
  rintro e w1 ⟨hout, b1⟩
  have hout2 := Lib.hid (hout.up (w := w) (h := hT wn l row (.node op n pl len sub)) bt.size (fun i hi => by unfold hT; rw [if_pos hop]))
  obtain ⟨g, rfl, _, _⟩ := hout
  have bt1 := below_then bt b1
  clear e0
  go_wp2_with fail
  go_ret
  exact ⟨hout2.out, bt1⟩
end Go.Proofs.Ytogdfjcgcdbnaaa
