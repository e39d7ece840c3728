/- sem.each, sem.next over functions that are handed in (by gen17d.py). -/
import Derived.Test.YtogdfjcgcdbnaaaTreesE
import Derived.Deep.OwnRows
import Derived.StillTailTactics
namespace Go.Proofs.Ytogdfjcgcdbnaaa
open Go.RowKit
set_option linter.unusedVariables false
set_option linter.unusedSimpArgs false
theorem Try.info_bool : (Try.prog.info? 4).map (fun i => (i.zero, i.size, i.bytes)) = some (some (.bool false), 1, 1) := by kernel_rfl
/-- A row of answers, from the beginning of a block on. -/
def BoolsAt (w : World) (g n : Nat) (f : Nat → Bool) : Prop := w.rowIs g 4 n fun i => .bool (f i)
theorem BoolsAt.mono {w w' : World} {g n : Nat} {f : Nat → Bool} (h : BoolsAt w g n f) (hb : Below w.heap.size w w') : BoolsAt w' g n f := World.rowIs.of_block h (hb.block g (World.rowIs.lt h))
def BoolsOut (w : World) (n : Nat) (f : Nat → Bool) (e : Ending) (w' : World) : Prop := ∃ g, e = .returned (.slice (some ⟨g, 0, none⟩) n n) ∧ w.heap.size ≤ g ∧ BoolsAt w' g n f
/-- The place behind a place. -/
def nextW (wn l i : Nat) : Nat := if i + 1 < wn then i + 1 else l
theorem nextW_lt {wn l i : Nat} (hl : l < wn) : nextW wn l i < wn := by unfold nextW; split <;> omega
theorem next_any (w : World) (wa : Option Addr) (wn wc l i : Nat) (hi : i < wn) (hwn : wn ≤ 1000000) (hl : l < wn) :
    Calls Try.prog 39 #[.agg #[.slice wa wn wc, .int .i64 (l : Nat)], .int .i64 (i : Nat)] w fun e w' => e = .returned (.int .i64 (nextW wn l i : Nat)) ∧ Below w.heap.size w w' := by
  have A := (Below.refl w.heap.size w).alloc (Nat.le_refl _) (.cells #[.slice wa wn wc, .int .i64 (l : Nat)] 27)
  have pt : (w.alloc (.cells #[.slice wa wn wc, .int .i64 (l : Nat)] 27)).heap[w.heap.size]? = some (.cells #[.slice wa wn wc, .int .i64 (l : Nat)] 27 (0, 0)) := heap_alloc_new _ _
  go_enter Try.func39, Try.ntmps39
  go_upto_region 1 with fail
  obtain ⟨v1, hv⟩ : ∃ v, w.alloc (.cells #[.slice wa wn wc, .int .i64 (l : Nat)] 27) = v := ⟨_, rfl⟩
  obtain ⟨gt, hg⟩ : ∃ g, w.heap.size = g := ⟨_, rfl⟩
  rw [hv] at pt A ⊢
  rw [hg] at pt ⊢
  have bt := A
  have hgw : w.heap.size ≤ gt := Nat.le_of_eq hg
  clear hv hg A
  have c0 : v1.cell? ⟨gt, 0, none⟩ = some (.slice wa wn wc) := cell_of_row _ _ 0 _ _ _ pt
  have c1 : v1.cell? ⟨gt, 1, none⟩ = some (.int .i64 (l : Nat)) := cell_of_row _ _ 1 _ _ _ pt
  by_cases h : i + 1 < wn
  · have f1 : decide (i + 1 < wn) = true := by simpa using h
    have f2 : decide ((i : Int) + 1 < (wn : Int)) = true := by simp; omega
    have H := Lib.hid h
    clear h
    go_wp2_with fail
    go_ret
    exact ⟨by unfold nextW; rw [if_pos H.out]; simp, bt⟩
  · have f1 : decide (i + 1 < wn) = false := by simpa using h
    have f2 : decide ((i : Int) + 1 < (wn : Int)) = false := by simp; omega
    have H := Lib.hid h
    clear h
    go_wp2_with fail
    go_ret
    exact ⟨by unfold nextW; rw [if_neg H.out]; rfl, bt⟩
set_option maxHeartbeats 1000000 in
theorem each_gen (w : World) (wa : Option Addr) (wn wc : Nat) (L : Int) (K : FuncId) (cap : Array Value) (f : Nat → Bool) (hK : ∀ args w, (callFunc K args).run Try.prog w = .ok (.enter K args) w) (hwn : wn ≤ 1000000)
    (hp : ∀ z : Later w.heap.size w, ∀ i, i < wn → Calls Try.prog K (#[.int .i64 (i : Nat)] ++ cap) z.w fun e w' => e = .returned (.bool (f i)) ∧ Below z.w.heap.size z.w w') :
    Calls Try.prog 30 #[.agg #[.slice wa wn wc, .int .i64 L], .func (.func K) #[] cap] w fun e w' => BoolsOut w wn f e w' ∧ Below w.heap.size w w' := by
  have hmk := run_make_row' (P := Try.prog) 32 4 (.bool false) 1 Try.underlying32 Try.info_bool rfl .i64 .i64 wn (by omega) (by omega)
  have A := (Below.refl w.heap.size w).alloc (Nat.le_refl _) (.cells #[.slice wa wn wc, .int .i64 L] 27)
  have pt : (w.alloc (.cells #[.slice wa wn wc, .int .i64 L] 27)).heap[w.heap.size]? = some (.cells #[.slice wa wn wc, .int .i64 L] 27 (0, 0)) := heap_alloc_new _ _
  go_enter Try.func30, Try.ntmps30
  go_upto_region 1 with fail
  obtain ⟨v1, hv⟩ : ∃ v, w.alloc (.cells #[.slice wa wn wc, .int .i64 L] 27) = v := ⟨_, rfl⟩
  obtain ⟨gt, hg⟩ : ∃ g, w.heap.size = g := ⟨_, rfl⟩
  rw [hv] at pt A ⊢
  rw [hg] at pt ⊢
  have bt := A
  have hgw : w.heap.size ≤ gt := Nat.le_of_eq hg
  clear hv hg A
  have c0 : v1.cell? ⟨gt, 0, none⟩ = some (.slice wa wn wc) := cell_of_row _ _ 0 _ _ _ pt
  have c1 : v1.cell? ⟨gt, 1, none⟩ = some (.int .i64 L) := cell_of_row _ _ 1 _ _ _ pt
  have hm0 := World.rowIs_made v1 (.bool false) wn 4
  have bm := bt.trans (((Below.refl v1.heap.size v1).alloc (Nat.le_refl _) (.cells (madeCells #[Value.bool false] wn) 4)).mono bt.size)
  have hgs := bt.size
  go_upto_region 2 with fail
  obtain ⟨v2, hv⟩ : ∃ v, v1.alloc (.cells (madeCells #[Value.bool false] wn) 4) = v := ⟨_, rfl⟩
  obtain ⟨gs, hg⟩ : ∃ g, v1.heap.size = g := ⟨_, rfl⟩
  have hm1 : v2.rowIs gs 4 wn fun i => .bool (if i < 0 then f i else false) := by
    rw [← hv, ← hg]
    exact hm0.congr fun i hi => by simp
  rw [hv] at bm ⊢
  rw [hg] at hgs ⊢
  have HM := Lib.hid hm1
  clear hv hg hm0 hm1 c0 c1 bt pt
  go_wp2_with fail
  go_loopw [13] (fun i w' => ∃ j : Nat, j ≤ wn ∧ i = .int .i64 (j : Nat) ∧ Hid (w'.rowIs gs 4 wn fun i => .bool (if i < j then f i else false)) ∧ Below w.heap.size w w') (fun i _ => wn - (intOf i).toNat)
  case atStart => exact ⟨0, Nat.zero_le _, rfl, HM, bm⟩
  case round =>
    clear HM bm
    obtain ⟨j, hj, rfl, HM, bt⟩ := hrel
    by_cases hjn : j < wn
    · have f1 : decide (j < wn) = true := by simpa using hjn
      go_wp2_with (first | (go_at_fn K; refine (hp ⟨wr, bt⟩ j hjn).mono ?_; rintro e w2 ⟨rfl, b2⟩; have HR := Lib.hid (HM.out.of_block (b2.block _ HM.out.lt)); have hcell := HR.out.cell hjn; have hfr := HR.out.frozen j; have bt2 := below_then bt b2))
      refine ⟨⟨j + 1, by omega, by simp, Lib.hid ((HR.out.set j _).congr fun i hi => ?_), bt2.setCell hgs _⟩, by simp [intOf]; omega⟩
      by_cases hij : i = j
      · subst hij; rw [if_pos rfl, if_pos (by omega)]
      · rw [if_neg hij]
        by_cases h2 : i < j
        · rw [if_pos h2, if_pos (by omega)]
        · rw [if_neg h2, if_neg (by omega)]
    · have f1 : decide (j < wn) = false := by simpa using hjn
      obtain rfl : j = wn := by omega
      go_wp2_with fail
      go_ret
      exact ⟨⟨gs, rfl, hgs, HM.out.congr fun i hi => by rw [if_pos hi]⟩, bt⟩
  end Go.Proofs.Ytogdfjcgcdbnaaa
