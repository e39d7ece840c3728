/- The document's Few of an automaton (by gen19eb.py). -/
import Derived.Test.YtpabnpgbclfcfaaAutE
namespace Go.Proofs.Ytpabnpgbclfcfaa
open Go.RowKit
set_option linter.unusedVariables false
set_option linter.unusedSimpArgs false

def FewP (most : Int) (n nn il cn : Nat) (ln : Nat → Nat) (next : Nat → List Int) (acc : Nat → List Int) : Prop :=
  (n : Int) ≤ most ∧ (nn : Int) ≤ most ∧ il < 4000 ∧ cn < 4000 ∧ (∀ i, i < nn → (next i).length < 4000) ∧ (∀ i, i < cn → (acc i).length < 4000) ∧ ∀ i, i < n → ln i < 4000
def FewR18 (most : Int) (n nn il cn : Nat) (ln : Nat → Nat) (next : Nat → List Int) (acc : Nat → List Int) (e : Ending) : Prop := ∃ G : Bool, e = .returned (.bool G) ∧ (G = true → FewP most n nn il cn ln next acc)
/-- No row of an automaton is longer than memory. -/
structure RoomP (n nn il cn : Nat) (ln : Nat → Nat) (next : Nat → List Int) (acc : Nat → List Int) : Prop where
  r1 : il ≤ 140737488351232
  r2 : cn ≤ 140737488351232
  r3 : nn ≤ 140737488351232
  r4 : n ≤ 140737488351232
  r5 : ∀ i, i < nn → (next i).length ≤ 140737488351232
  r6 : ∀ i, i < cn → (acc i).length ≤ 140737488351232
  r7 : ∀ i, i < n → ln i ≤ 140737488351232
set_option maxRecDepth 20000 in
set_option maxHeartbeats 2000000 in
theorem few_any18 (w : World) (la na ia ca : Option Addr) (n lc nn nc il ic cn cc : Nat) (ln : Nat → Nat) (lit : Nat → Nat → T) (next : Nat → List Int) (init : List Int) (acc : Nat → List Int) (most : Int) (hmost : 0 ≤ most ∧ most ≤ 1000) (h : AutAt w la na ia ca n nn il cn ln lit next init acc) (hR : RoomP n nn il cn ln next acc) :
    Calls Try.prog 5 #[.agg #[.slice la n lc, .slice na nn nc, .slice ia il ic, .slice ca cn cc], .int .i64 most] w fun e w' => FewR18 most n nn il cn ln next acc e ∧ Below w.heap.size w w' := by
  have hn := hR.r4
  have hnn := hR.r3
  have hcn := hR.r2
  have hil := hR.r1
  have HR := Lib.hid hR
  clear hR
  have A0 := (Below.refl w.heap.size w).alloc (Nat.le_refl _) (.cells #[.slice la n lc, .slice na nn nc, .slice ia il ic, .slice ca cn cc] 26)
  have pt : (w.alloc (.cells #[.slice la n lc, .slice na nn nc, .slice ia il ic, .slice ca cn cc] 26)).heap[w.heap.size]? = some (.cells #[.slice la n lc, .slice na nn nc, .slice ia il ic, .slice ca cn cc] 26 (0, 0)) := heap_alloc_new _ _
  go_enter Try.func5, Try.ntmps5
  go_upto_region 1 with fail
  obtain ⟨v1, hv⟩ : ∃ v, w.alloc (.cells #[.slice la n lc, .slice na nn nc, .slice ia il ic, .slice ca cn cc] 26) = v := ⟨_, rfl⟩
  obtain ⟨g, hg⟩ : ∃ g, w.heap.size = g := ⟨_, rfl⟩
  rw [hv] at pt A0 ⊢
  rw [hg] at pt ⊢
  have bt := A0
  have hgw : w.heap.size ≤ g := Nat.le_of_eq hg
  clear hv hg A0
  have c0 : v1.cell? ⟨g, 0, none⟩ = some (.slice la n lc) := cell_of_row _ _ 0 _ _ _ pt
  have c1 : v1.cell? ⟨g, 1, none⟩ = some (.slice na nn nc) := cell_of_row _ _ 1 _ _ _ pt
  have c2 : v1.cell? ⟨g, 2, none⟩ = some (.slice ia il ic) := cell_of_row _ _ 2 _ _ _ pt
  have c3 : v1.cell? ⟨g, 3, none⟩ = some (.slice ca cn cc) := cell_of_row _ _ 3 _ _ _ pt
  go_wp2_with fail
  go_loopw [6, 5] (fun i d w' => ∃ (j : Nat) (D : Int), j ≤ nn ∧ i = .int .i64 (j : Nat) ∧ d = .int .i64 D ∧ (0 ≤ D ∧ D ≤ 562949953421312) ∧ Hid (D < 4000 → (il : Int) + cn ≤ D ∧ ∀ p, p < j → ((next p).length : Int) ≤ D) ∧ w'.heap[g]? = some (.cells #[.slice la n lc, .slice na nn nc, .slice ia il ic, .slice ca cn cc] 26 (0, 0)) ∧ Below w.heap.size w w') (fun i d _ => nn - (intOf i).toNat)
  case atStart => exact ⟨0, (il : Int) + cn, Nat.zero_le _, rfl, by simp, by omega, Lib.hid (fun _ => ⟨by omega, fun p hp => by omega⟩), pt, bt⟩
  case round =>
    clear pt bt c0 c1 c2 c3
    obtain ⟨j, D, hj, rfl, rfl, hD, HQ, pt, bt⟩ := hrel
    have c0 : wr.cell? ⟨g, 0, none⟩ = some (.slice la n lc) := cell_of_row _ _ 0 _ _ _ pt
    have c1 : wr.cell? ⟨g, 1, none⟩ = some (.slice na nn nc) := cell_of_row _ _ 1 _ _ _ pt
    have c2 : wr.cell? ⟨g, 2, none⟩ = some (.slice ia il ic) := cell_of_row _ _ 2 _ _ _ pt
    have c3 : wr.cell? ⟨g, 3, none⟩ = some (.slice ca cn cc) := cell_of_row _ _ 3 _ _ _ pt
    by_cases hc : j < nn ∧ D < 4000
    · obtain ⟨hjl, hd⟩ := hc
      have f1 : decide (j < nn) = true := by simpa using hjl
      have f2 : decide (D < 4000) = true := by simpa using hd
      obtain ⟨b1, o1, rfl, hb1, x1, l1, k1, e2, r1⟩ := (h.next.mono bt).cell hjl
      have hl1 := r1.len_eq
      have hl2 := HR.out.r5 j hjl
      rw [hl1] at hl2
      have HL := Lib.hid hl1
      clear hl1 r1
      go_wp2_with fail
      refine ⟨⟨j + 1, D + l1, by omega, by simp, rfl, by omega, Lib.hid (fun h4 => ?_), pt, bt⟩, by simp [intOf]; omega⟩
      obtain ⟨q1, q2⟩ := HQ.out hd
      refine ⟨by omega, fun p hp => ?_⟩
      by_cases hpj : p = j
      · rw [hpj, HL.out]; omega
      · have := q2 p (by omega); omega
    · go_upto_region 3 with fail
      go_cut [26] from 18 to 26 (fun v26 w' => v26 = .bool false ∧ wr = w')
      case first =>
        by_cases hjl : j < nn
        · have f1 : decide (j < nn) = true := by simpa using hjl
          have f2 : decide (D < 4000) = false := by simp; omega
          clear hc
          go_wp2_with fail
          go_meet
          exact ⟨rfl, rfl⟩
        · have f1 : decide (j < nn) = false := by simpa using hjl
          clear hc
          go_wp2_with fail
          go_meet
          exact ⟨rfl, rfl⟩
      case rest =>
      obtain ⟨rfl, rfl⟩ := hcut
      have HQ2 := Lib.hid (show D < 4000 → (il : Int) + cn ≤ D ∧ ∀ p, p < nn → ((next p).length : Int) ≤ D from fun h4 => by
        obtain ⟨q1, q2⟩ := HQ.out h4
        exact ⟨q1, fun p hp => q2 p (by omega)⟩)
      clear hc
      go_wp2_with fail
      go_loopw [7, 5] (fun i d w' => ∃ (j : Nat) (D : Int), j ≤ cn ∧ i = .int .i64 (j : Nat) ∧ d = .int .i64 D ∧ (0 ≤ D ∧ D ≤ 562949953421312) ∧ Hid (D < 4000 → (il : Int) + cn ≤ D ∧ (∀ p, p < nn → ((next p).length : Int) ≤ D) ∧ ∀ p, p < j → ((acc p).length : Int) ≤ D) ∧ w'.heap[g]? = some (.cells #[.slice la n lc, .slice na nn nc, .slice ia il ic, .slice ca cn cc] 26 (0, 0)) ∧ Below w.heap.size w w') (fun i d _ => cn - (intOf i).toNat)
      case atStart => exact ⟨0, D, Nat.zero_le _, rfl, rfl, hD, Lib.hid (fun h4 => ⟨(HQ2.out h4).1, (HQ2.out h4).2, fun p hp => by omega⟩), pt, bt⟩
      case round =>
        clear pt bt c0 c1 c2 c3 HQ HQ2 hD hj
        obtain ⟨j2, D2, hj, rfl, rfl, hD, HQ, pt, bt⟩ := hrel
        have c0 : wr.cell? ⟨g, 0, none⟩ = some (.slice la n lc) := cell_of_row _ _ 0 _ _ _ pt
        have c1 : wr.cell? ⟨g, 1, none⟩ = some (.slice na nn nc) := cell_of_row _ _ 1 _ _ _ pt
        have c2 : wr.cell? ⟨g, 2, none⟩ = some (.slice ia il ic) := cell_of_row _ _ 2 _ _ _ pt
        have c3 : wr.cell? ⟨g, 3, none⟩ = some (.slice ca cn cc) := cell_of_row _ _ 3 _ _ _ pt
        by_cases hc : j2 < cn ∧ D2 < 4000
        · obtain ⟨hjl, hd⟩ := hc
          have f1 : decide (j2 < cn) = true := by simpa using hjl
          have f2 : decide (D2 < 4000) = true := by simpa using hd
          obtain ⟨b1, o1, rfl, hb1, x1, l1, k1, e2, r1⟩ := (h.acc.mono bt).cell hjl
          have hl1 := r1.len_eq
          have hl2 := HR.out.r6 j2 hjl
          rw [hl1] at hl2
          have HL := Lib.hid hl1
          clear hl1 r1
          go_wp2_with fail
          refine ⟨⟨j2 + 1, D2 + l1, by omega, by simp, rfl, by omega, Lib.hid (fun h4 => ?_), pt, bt⟩, by simp [intOf]; omega⟩
          obtain ⟨q1, q0, q2⟩ := HQ.out hd
          refine ⟨by omega, fun p hp => by have := q0 p hp; omega, fun p hp => ?_⟩
          by_cases hpj : p = j2
          · rw [hpj, HL.out]; omega
          · have := q2 p (by omega); omega
        · go_upto_region 7 with fail
          go_cut [45] from 37 to 45 (fun v45 w' => v45 = .bool false ∧ wr = w')
          case first =>
            by_cases hjl : j2 < cn
            · have f1 : decide (j2 < cn) = true := by simpa using hjl
              have f2 : decide (D2 < 4000) = false := by simp; omega
              clear hc
              go_wp2_with fail
              go_meet
              exact ⟨rfl, rfl⟩
            · have f1 : decide (j2 < cn) = false := by simpa using hjl
              clear hc
              go_wp2_with fail
              go_meet
              exact ⟨rfl, rfl⟩
          case rest =>
          obtain ⟨rfl, rfl⟩ := hcut
          have HQ2 := Lib.hid (show D2 < 4000 → (il : Int) + cn ≤ D2 ∧ (∀ p, p < nn → ((next p).length : Int) ≤ D2) ∧ ∀ p, p < cn → ((acc p).length : Int) ≤ D2 from fun h4 => by
            obtain ⟨q1, q0, q2⟩ := HQ.out h4
            exact ⟨q1, q0, fun p hp => q2 p (by omega)⟩)
          clear hc
          go_wp2_with fail
          go_loopw [8, 5] (fun i d w' => ∃ (j : Nat) (D : Int), j ≤ n ∧ i = .int .i64 (j : Nat) ∧ d = .int .i64 D ∧ (0 ≤ D ∧ D ≤ 562949953421312) ∧ Hid (D < 4000 → (il : Int) + cn ≤ D ∧ (∀ p, p < nn → ((next p).length : Int) ≤ D) ∧ (∀ p, p < cn → ((acc p).length : Int) ≤ D) ∧ ∀ p, p < j → (ln p : Int) ≤ D) ∧ w'.heap[g]? = some (.cells #[.slice la n lc, .slice na nn nc, .slice ia il ic, .slice ca cn cc] 26 (0, 0)) ∧ Below w.heap.size w w') (fun i d _ => n - (intOf i).toNat)
          case atStart => exact ⟨0, D2, Nat.zero_le _, rfl, rfl, hD, Lib.hid (fun h4 => ⟨(HQ2.out h4).1, (HQ2.out h4).2.1, (HQ2.out h4).2.2, fun p hp => by omega⟩), pt, bt⟩
          case round =>
            clear pt bt c0 c1 c2 c3 HQ HQ2 hD hj
            obtain ⟨q, D3, hj, rfl, rfl, hD, HQ, pt, bt⟩ := hrel
            by_cases hc : q < n ∧ D3 < 4000
            · obtain ⟨hqn, hd⟩ := hc
              have f1 : decide (q < n) = true := by simpa using hqn
              have f2 : decide (D3 < 4000) = true := by simpa using hd
              obtain ⟨b4, o4, rfl, hb4, x4, k4, e4, s4, r4⟩ := (h.lits.mono bt).cell hqn
              have hl2 := HR.out.r7 q hqn
              have c0 : wr.cell? ⟨g, 0, none⟩ = some (.slice (some ⟨b4, o4, none⟩) n lc) := cell_of_row _ _ 0 _ _ _ pt
              go_wp2_with fail
              clear c0 e4 r4
              go_loopw [9] (fun i w' => ∃ j : Nat, j ≤ ln q ∧ i = .int .i64 (j : Nat) ∧ w'.heap[g]? = some (.cells #[.slice (some ⟨b4, o4, none⟩) n lc, .slice na nn nc, .slice ia il ic, .slice ca cn cc] 26 (0, 0)) ∧ Below w.heap.size w w') (fun i _ => ln q - (intOf i).toNat)
              case atStart => exact ⟨0, Nat.zero_le _, rfl, pt, bt⟩
              case round =>
                clear pt bt
                obtain ⟨j, hj2, rfl, pt, bt⟩ := hrel
                have c0 : wr.cell? ⟨g, 0, none⟩ = some (.slice (some ⟨b4, o4, none⟩) n lc) := cell_of_row _ _ 0 _ _ _ pt
                obtain ⟨b4, o4, he, hb4, x4, k4, e4, s4, r4⟩ := (h.lits.mono bt).cell hqn
                cases he
                by_cases hjl : j < ln q
                · have f2 : decide (j < ln q) = true := by simpa using hjl
                  obtain ⟨b5, o5, rfl, hb5, o', n', p', a', l', c', g0, g1, g2, g3, g4⟩ := r4.cell hjl
                  go_wp2_with fail
                  refine (few13_any _ (lit q j) _ g4).mono ?_
                  rintro e w5 ⟨⟨S3, rfl⟩, b5⟩
                  replace pt := (b5.block g (Array.getElem?_eq_some_iff.1 pt).1).trans pt
                  replace bt := below_then bt b5
                  clear c0 e4 g0 g1 g2 g3 g4
                  cases S3 with
                  | false =>
                    go_wp2_with fail
                    go_ret
                    exact ⟨⟨false, rfl, nofun⟩, bt⟩
                  | true =>
                    go_wp2_with fail
                    exact ⟨⟨j + 1, by omega, by simp, pt, bt⟩, by simp [intOf]; omega⟩
                · have f2 : decide (j < ln q) = false := by simpa using hjl
                  obtain rfl : j = ln q := by omega
                  go_wp2_with fail
                  refine ⟨⟨q + 1, D3 + ln q, by omega, by simp, rfl, by omega, Lib.hid (fun h4 => ?_), pt, bt⟩, by simp [intOf]; omega⟩
                  obtain ⟨q1, q0, q2, q3⟩ := HQ.out hd
                  refine ⟨by omega, fun p hp => by have := q0 p hp; omega, fun p hp => by have := q2 p hp; omega, fun p hp => ?_⟩
                  by_cases hpj : p = q
                  · rw [hpj]; omega
                  · have := q3 p (by omega); omega
            · have c0 : wr.cell? ⟨g, 0, none⟩ = some (.slice la n lc) := cell_of_row _ _ 0 _ _ _ pt
              go_upto_region 11 with fail
              go_cut [64] from 56 to 64 (fun v64 w' => v64 = .bool false ∧ wr = w')
              case first =>
                by_cases hjl : q < n
                · have f1 : decide (q < n) = true := by simpa using hjl
                  have f2 : decide (D3 < 4000) = false := by simp; omega
                  clear hc
                  go_wp2_with fail
                  go_meet
                  exact ⟨rfl, rfl⟩
                · have f1 : decide (q < n) = false := by simpa using hjl
                  clear hc
                  go_wp2_with fail
                  go_meet
                  exact ⟨rfl, rfl⟩
              case rest =>
              obtain ⟨rfl, rfl⟩ := hcut
              have HQ2 := Lib.hid (show D3 < 4000 → (il : Int) + cn ≤ D3 ∧ (∀ p, p < nn → ((next p).length : Int) ≤ D3) ∧ (∀ p, p < cn → ((acc p).length : Int) ≤ D3) ∧ ∀ p, p < n → (ln p : Int) ≤ D3 from fun h4 => by
                obtain ⟨q1, q0, q2, q3⟩ := HQ.out h4
                exact ⟨q1, q0, q2, fun p hp => q3 p (by omega)⟩)
              clear hc c0
              have c0 : wr.cell? ⟨g, 0, none⟩ = some (.slice la n lc) := cell_of_row _ _ 0 _ _ _ pt
              have c1 : wr.cell? ⟨g, 1, none⟩ = some (.slice na nn nc) := cell_of_row _ _ 1 _ _ _ pt
              have c2 : wr.cell? ⟨g, 2, none⟩ = some (.slice ia il ic) := cell_of_row _ _ 2 _ _ _ pt
              have c3 : wr.cell? ⟨g, 3, none⟩ = some (.slice ca cn cc) := cell_of_row _ _ 3 _ _ _ pt
              by_cases hd : D3 < 4000
              case neg =>
                have f1 : decide (D3 < 4000) = false := by simpa using hd
                clear hd
                go_wp2_with fail
                go_ret
                exact ⟨⟨false, rfl, nofun⟩, bt⟩
              have f1 : decide (D3 < 4000) = true := by simpa using hd
              by_cases hm1 : (n : Int) ≤ most
              case neg =>
                have f2 : decide ((n : Int) ≤ most) = false := by simpa using hm1
                clear hd hm1
                go_wp2_with fail
                go_ret
                exact ⟨⟨false, rfl, nofun⟩, bt⟩
              have f2 : decide ((n : Int) ≤ most) = true := by simpa using hm1
              by_cases hm2 : (nn : Int) ≤ most
              case neg =>
                have f3 : decide ((nn : Int) ≤ most) = false := by simpa using hm2
                clear hd hm1 hm2
                go_wp2_with fail
                go_ret
                exact ⟨⟨false, rfl, nofun⟩, bt⟩
              have f3 : decide ((nn : Int) ≤ most) = true := by simpa using hm2
              have HF := Lib.hid (show FewP most n nn il cn ln next acc by
                obtain ⟨q1, q0, q2, q3⟩ := HQ2.out hd
                exact ⟨hm1, hm2, by omega, by omega, fun p hp => by have := q0 p hp; omega, fun p hp => by have := q2 p hp; omega, fun p hp => by have := q3 p hp; omega⟩)
              clear hd hm1 hm2
              go_wp2_with fail
              go_ret
              exact ⟨⟨true, rfl, fun _ => HF.out⟩, bt⟩
end Go.Proofs.Ytpabnpgbclfcfaa
