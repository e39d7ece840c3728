/- The document's May of an automaton (by gen19eb.py). -/
import Derived.Test.YtpabnpgbclfcfaaAutE
namespace Go.Proofs.Ytpabnpgbclfcfaa
open Go.RowKit
set_option linter.unusedVariables false
set_option linter.unusedSimpArgs false

def MayR18 (n : Nat) (ln : Nat → Nat) (lit : Nat → Nat → T) (e : Ending) : Prop := ∃ G : Bool, e = .returned (.bool G) ∧ (G = true → ∀ q, q < n → ∀ i, i < ln q → MayP (lit q i))
set_option maxRecDepth 20000 in
set_option maxHeartbeats 2000000 in
theorem may_any18 (w : World) (la na ia ca : Option Addr) (n lc nn nc il ic cn cc : Nat) (ln : Nat → Nat) (lit : Nat → Nat → T) (next : Nat → List Int) (init : List Int) (acc : Nat → List Int) (vars : Int) (hvars : -9223372036854775808 ≤ vars ∧ vars ≤ 9223372036854775807) (h : AutAt w la na ia ca n nn il cn ln lit next init acc) :
    Calls Try.prog 7 #[.agg #[.slice la n lc, .slice na nn nc, .slice ia il ic, .slice ca cn cc], .int .i64 vars] w fun e w' => MayR18 n ln lit e ∧ Below w.heap.size w w' := by
  have hn := h.hn
  have hnn := h.hnn
  have hcn := h.hcn
  have A0 := (Below.refl w.heap.size w).alloc (Nat.le_refl _) (.cells #[.slice la n lc, .slice na nn nc, .slice ia il ic, .slice ca cn cc] 26)
  have pt : (w.alloc (.cells #[.slice la n lc, .slice na nn nc, .slice ia il ic, .slice ca cn cc] 26)).heap[w.heap.size]? = some (.cells #[.slice la n lc, .slice na nn nc, .slice ia il ic, .slice ca cn cc] 26 (0, 0)) := heap_alloc_new _ _
  go_enter Try.func7, Try.ntmps7
  go_upto_region 1 with fail
  obtain ⟨v1, hv⟩ : ∃ v, w.alloc (.cells #[.slice la n lc, .slice na nn nc, .slice ia il ic, .slice ca cn cc] 26) = v := ⟨_, rfl⟩
  obtain ⟨g, hg⟩ : ∃ g, w.heap.size = g := ⟨_, rfl⟩
  rw [hv] at pt A0 ⊢
  rw [hg] at pt ⊢
  have bt := A0
  have hgw : w.heap.size ≤ g := Nat.le_of_eq hg
  clear hv hg A0
  go_wp2_with fail
  go_loopw [5] (fun i w' => ∃ q : Nat, q ≤ n ∧ i = .int .i64 (q : Nat) ∧ Hid (∀ p, p < q → ∀ i, i < ln p → MayP (lit p i)) ∧ w'.heap[g]? = some (.cells #[.slice la n lc, .slice na nn nc, .slice ia il ic, .slice ca cn cc] 26 (0, 0)) ∧ Below w.heap.size w w') (fun i _ => n - (intOf i).toNat)
  case atStart => exact ⟨0, Nat.zero_le _, rfl, Lib.hid (fun p hp => by omega), pt, bt⟩
  case round =>
    clear pt bt
    obtain ⟨q, hq, rfl, HQ, pt, bt⟩ := hrel
    have c0 : wr.cell? ⟨g, 0, none⟩ = some (.slice la n lc) := cell_of_row _ _ 0 _ _ _ pt
    by_cases hqn : q < n
    · have f1 : decide (q < n) = true := by simpa using hqn
      go_wp2_with fail
      go_loopw [6] (fun i w' => ∃ j : Nat, j ≤ ln q ∧ i = .int .i64 (j : Nat) ∧ Hid (∀ i, i < j → MayP (lit q i)) ∧ w'.heap[g]? = some (.cells #[.slice la n lc, .slice na nn nc, .slice ia il ic, .slice ca cn cc] 26 (0, 0)) ∧ Below w.heap.size w w') (fun i _ => ln q - (intOf i).toNat)
      case atStart => exact ⟨0, Nat.zero_le _, rfl, Lib.hid (fun p hp => by omega), pt, bt⟩
      case round =>
        clear pt bt c0
        obtain ⟨j, hj, rfl, HJ, pt, bt⟩ := hrel
        obtain ⟨b4, o4, rfl, hb4, x4, k4, e4, s4, r4⟩ := (h.lits.mono bt).cell hqn
        have c0 : wr.cell? ⟨g, 0, none⟩ = some (.slice (some ⟨b4, o4, none⟩) n lc) := cell_of_row _ _ 0 _ _ _ pt
        by_cases hjl : j < ln q
        · have f2 : decide (j < ln q) = true := by simpa using hjl
          obtain ⟨b5, o5, rfl, hb5, o', n', p', a', l', c', g0, g1, g2, g3, g4⟩ := r4.cell hjl
          go_wp2_with fail
          refine (may_any (lit q j) _ _ vars g4 hvars).mono ?_
          rintro e w5 ⟨⟨S3, rfl, hS3⟩, b5⟩
          replace pt := (b5.block g (Array.getElem?_eq_some_iff.1 pt).1).trans pt
          replace bt := below_then bt b5
          have HS3 := Lib.hid hS3
          clear hS3 c0 e4 g0 g1 g2 g3 g4
          cases S3 with
          | false =>
            go_wp2_with fail
            go_ret
            exact ⟨⟨false, rfl, nofun⟩, bt⟩
          | true =>
            go_wp2_with fail
            refine ⟨⟨j + 1, by omega, by simp, Lib.hid (fun i hi => ?_), pt, bt⟩, by simp [intOf]; omega⟩
            by_cases hij : i = j
            · rw [hij]; exact HS3.out (by first | exact rfl | exact trivial)
            · exact HJ.out i (by omega)
        · have f2 : decide (j < ln q) = false := by simpa using hjl
          obtain rfl : j = ln q := by omega
          go_wp2_with fail
          refine ⟨⟨q + 1, by omega, by simp, Lib.hid (fun p hp => ?_), pt, bt⟩, by simp [intOf]; omega⟩
          by_cases hpq : p = q
          · rw [hpq]; exact HJ.out
          · exact HQ.out p (by omega)
    · have f1 : decide (q < n) = false := by simpa using hqn
      obtain rfl : q = n := by omega
      go_wp2_with fail
      go_ret
      exact ⟨⟨true, rfl, fun _ => HQ.out⟩, bt⟩
end Go.Proofs.Ytpabnpgbclfcfaa
