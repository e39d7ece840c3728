/- The document's Sets of an automaton (by gen19k.py). -/
import Derived.Test.YtcacflgopnjciaaAutJ
namespace Go.Proofs.Ytcacflgopnjciaa
open Go.RowKit
set_option linter.unusedVariables false
set_option linter.unusedSimpArgs false

def setRow (n cn : Nat) (acc : Nat → List Int) (i : Nat) : List Int := if cn = 0 then (List.range n).map (fun (q : Nat) => (q : Int)) else acc i
theorem setRow_in {n cn : Nat} {acc : Nat → List Int} {i q : Nat} (hq : q < n) : decide ((q : Int) ∈ setRow n cn acc i) = inB cn acc i q := by
  unfold setRow inB
  by_cases h : cn = 0
  · rw [if_pos h, if_pos h]
    refine decide_eq_true ?_
    rw [List.mem_map]
    exact ⟨q, List.mem_range.2 hq, rfl⟩
  · rw [if_neg h, if_neg h]
theorem range_take (n k : Nat) (h : k < n) : (List.range (k + 1)).map (fun (q : Nat) => Value.int .i64 (q : Int)) = (List.range k).map (fun (q : Nat) => Value.int .i64 (q : Int)) ++ [.int .i64 (k : Int)] := by
  rw [List.range_succ, List.map_append]
  rfl
def SetsD (K n cn : Nat) (acc : Nat → List Int) (e : Ending) (w' : World) : Prop := ∃ (a : Option Addr) (c : Nat), e = .returned (.slice a K c) ∧ WordAt w' a K (setRow n cn acc)
set_option maxRecDepth 20000 in
set_option maxHeartbeats 2000000 in
theorem refsets_any (w : World) (la na ia ca : Option Addr) (n lc nn nc il ic cn cc : Nat) (ln : Nat → Nat) (lit : Nat → Nat → T) (next : Nat → List Int) (init : List Int) (acc : Nat → List Int) (h : AutAt w la na ia ca n nn il cn ln lit next init acc) (K : Nat) (hK : K = if cn = 0 then 1 else cn) (hn : n ≤ 1000) :
    Calls Try.prog 24 #[.agg #[.slice la n lc, .slice na nn nc, .slice ia il ic, .slice ca cn cc]] w fun e w' => SetsD K n cn acc e w' ∧ Below w.heap.size w w' := by
  have hcn := h.hcn
  have A0 := (Below.refl w.heap.size w).alloc (Nat.le_refl _) (.cells #[.slice la n lc, .slice na nn nc, .slice ia il ic, .slice ca cn cc] 26)
  have pt : (w.alloc (.cells #[.slice la n lc, .slice na nn nc, .slice ia il ic, .slice ca cn cc] 26)).heap[w.heap.size]? = some (.cells #[.slice la n lc, .slice na nn nc, .slice ia il ic, .slice ca cn cc] 26 (0, 0)) := heap_alloc_new _ _
  go_enter Try.func24, Try.ntmps24
  go_upto_region 1 with fail
  obtain ⟨v1, hv⟩ : ∃ v, w.alloc (.cells #[.slice la n lc, .slice na nn nc, .slice ia il ic, .slice ca cn cc] 26) = v := ⟨_, rfl⟩
  obtain ⟨g, hg⟩ : ∃ g, w.heap.size = g := ⟨_, rfl⟩
  rw [hv] at pt A0 ⊢
  rw [hg] at pt ⊢
  have bt := A0
  have hgw : w.heap.size ≤ g := Nat.le_of_eq hg
  clear hv hg A0
  have c0 : v1.cell? ⟨g, 0, none⟩ = some (.slice la n lc) := cell_of_row _ _ 0 _ _ _ pt
  have c1 : v1.cell? ⟨g, 1, none⟩ = some (.slice na nn nc) := cell_of_row _ _ 1 _ _ _ pt
  have c2 : v1.cell? ⟨g, 2, none⟩ = some (.slice ia il ic) := cell_of_row _ _ 2 _ _ _ pt
  have c3 : v1.cell? ⟨g, 3, none⟩ = some (.slice ca cn cc) := cell_of_row _ _ 3 _ _ _ pt
  by_cases h0 : 0 < cn
  · have f1 : decide (0 < cn) = true := by simpa using h0
    have f2 : decide ((0 : Int) < (cn : Int)) = true := by simp; omega
    rw [if_neg (by omega)] at hK
    subst hK
    have HE := Lib.hid (h.acc.mono bt)
    have HC := Lib.hid (show ¬ K = 0 by omega)
    clear h0
    go_wp2_with fail
    go_ret
    exact ⟨⟨ca, cc, rfl, by
      have := HE.out
      rcases this with h9 | ⟨b, off, ha, hb, hi⟩
      · exact .inl h9
      · refine .inr ⟨b, off, ha, hb, fun j hj => ?_⟩
        unfold setRow
        rw [if_neg HC.out]
        exact hi j hj⟩, bt⟩
  · have f1 : decide (0 < cn) = false := by simpa using h0
    have f2 : decide ((0 : Int) < (cn : Int)) = false := by simp; omega
    have hc0 : cn = 0 := by omega
    subst hc0
    rw [if_pos rfl] at hK
    subst hK
    clear h0
    go_wp2_with fail
    clear c0 c1 c2 c3
    go_loopw [3, 4] (fun v i w' => ∃ j : Nat, j ≤ n ∧ i = .int .i64 (j : Nat) ∧ w'.ownsRow w.heap.size 3 1 v j ((List.range j).map (fun (q : Nat) => Value.int .i64 (q : Int))) ∧ w'.heap[g]? = some (.cells #[.slice la n lc, .slice na nn nc, .slice ia il ic, .slice ca 0 cc] 26 (0, 0)) ∧ Below w.heap.size w w') (fun v i _ => n - (intOf i).toNat)
    case atStart => exact ⟨0, Nat.zero_le _, rfl, World.ownsRow_nil _ _ _ _, pt, bt⟩
    case round =>
      clear pt bt
      obtain ⟨j, hj, rfl, own, pt, bt⟩ := hrel
      have c0 : wr.cell? ⟨g, 0, none⟩ = some (.slice la n lc) := cell_of_row _ _ 0 _ _ _ pt
      have hbw := bt.size
      by_cases hjn : j < n
      · have f3 : decide (j < n) = true := by simpa using hjn
        have bA : Below wr.heap.size wr (wr.alloc (.cells #[.int .i64 (j : Nat)] 3)) := (Below.refl _ _).alloc (Nat.le_refl _) _
        have own2 := ownR_bel own bA
        have hlow := Lib.hid own.lt
        go_wp2_with (first | (at_builtin; refine append_at rfl (.tmp 18) (.tmp 20) 24 rfl w.heap.size 3 (.int .i64 0) 1 8 Try.underlying24 Try.info_int rfl (by decide) _ j _ rfl own2 ⟨_, 0, none⟩ 1 1 [.int .i64 (j : Nat)] rfl rfl (cell_one_new _ _ _) (fun u hu => by rw [List.mem_singleton.1 hu]; rfl) (by unfold maxLen; omega) (by omega) (by simp; omega) ?_; intro v5 w5 own5 gr5 at5))
        rw [← range_take n j hjn] at own5
        have b5 : Below w.heap.size w w5 := (below_then bt bA).grown gr5 (by simp; omega) (fun k hk => (hlow.out k hk).1)
        refine ⟨⟨j + 1, by omega, by simp, own5, ?_, b5⟩, by simp [intOf]; omega⟩
        have lt := (Array.getElem?_eq_some_iff.1 pt).1
        have ptA := (bA.block g lt).trans pt
        exact (gr5.block g (by simp; omega) (fun he => own_off1 own2 ptA (by decide) g he.symm rfl)).trans ptA
      · have f3 : decide (j < n) = false := by simpa using hjn
        obtain rfl : n = j := by omega
        obtain ⟨a9, c9, e9, hi9⟩ := ints_of (l := (List.range n).map (fun (q : Nat) => (q : Int))) own (fun i hi => by
          rw [List.getElem?_map, List.getElem?_range hi, List.getD_eq_getElem?_getD, List.getElem?_map, List.getElem?_range hi]
          rfl) (by simp) (by omega)
        subst e9
        have HI := Lib.hid hi9
        clear hi9 own
        go_wp2_with fail
        go_ret
        refine ⟨⟨_, _, rfl, .inr ⟨wr.heap.size, 0, rfl, by simp, fun i hi => ?_⟩⟩, bt.alloc hbw _⟩
        obtain rfl : i = 0 := by omega
        refine ⟨a9, n, c9, cell_of_row _ _ 0 _ _ _ (heap_alloc_new wr _), ?_⟩
        unfold setRow
        rw [if_pos rfl]
        exact HI.out.mono ((Below.refl _ _).alloc (Nat.le_refl _) _)
end Go.Proofs.Ytcacflgopnjciaa
