/- The document's May on trees (by gen17a.py). -/
import Derived.Test.YtpabnpgbclfcfaaTreesB
namespace Go.Proofs.Ytpabnpgbclfcfaa
open Go.RowKit
set_option linter.unusedVariables false
set_option linter.unusedSimpArgs false
def MayR (t : T) (e : Ending) : Prop := ∃ b : Bool, e = .returned (.bool b) ∧ (b = true → MayP t)
theorem arity_two {op : Int} (h1 : ¬ (op = 1 ∨ op = 2 ∨ op = 13 ∨ op = 14)) (h2 : ¬ (op = 6 ∨ op = 15 ∨ op = 20 ∨ op = 21 ∨ op = 22)) : arity op = 2 := by
  unfold arity
  rw [if_neg h1, if_neg h2]
set_option maxRecDepth 20000 in
set_option maxHeartbeats 1000000 in
theorem may_any : ∀ (t : T) (w : World) (v : Value) (vars : Int), TreeAt w t v → -9223372036854775808 ≤ vars ∧ vars ≤ 9223372036854775807 →
    Calls Try.prog 16 #[v, .int .i64 vars] w fun e w' => MayR t e ∧ Below w.heap.size w w' := by
  intro t
  induction t with
  | nil => exact fun w v most h => h.elim
  | node op n pl len sub ih =>
    rintro w v vars ⟨a, cap, rfl, ho, hn, hp, hl, hnone, hat⟩ hvars
    have A := (Below.refl w.heap.size w).alloc (Nat.le_refl _) (.cells #[.int .i64 op, .int .i64 n, .int .i64 pl, .slice a len cap] 40)
    have pt : (w.alloc (.cells #[.int .i64 op, .int .i64 n, .int .i64 pl, .slice a len cap] 40)).heap[w.heap.size]? = some (.cells #[.int .i64 op, .int .i64 n, .int .i64 pl, .slice a len cap] 40 (0, 0)) := heap_alloc_new _ _
    go_enter Try.func16, Try.ntmps16
    go_upto_region 1 with fail
    obtain ⟨v1, hv⟩ : ∃ v, w.alloc (.cells #[.int .i64 op, .int .i64 n, .int .i64 pl, .slice a len cap] 40) = v := ⟨_, rfl⟩
    obtain ⟨gt, hg⟩ : ∃ g, w.heap.size = g := ⟨_, rfl⟩
    rw [hv] at pt A ⊢
    rw [hg] at pt ⊢
    have bt := A
    have hgw : w.heap.size ≤ gt := Nat.le_of_eq hg
    clear hv hg A
    have c0 : v1.cell? ⟨gt, 0, none⟩ = some (.int .i64 op) := cell_of_row _ _ 0 _ _ _ pt
    have c1 : v1.cell? ⟨gt, 1, none⟩ = some (.int .i64 n) := cell_of_row _ _ 1 _ _ _ pt
    have c2 : v1.cell? ⟨gt, 2, none⟩ = some (.int .i64 pl) := cell_of_row _ _ 2 _ _ _ pt
    have c3 : v1.cell? ⟨gt, 3, none⟩ = some (.slice a len cap) := cell_of_row _ _ 3 _ _ _ pt
    go_upto_block 0 with fail
    go_cut [5] from 8 to 20 (fun v5 w' => v5 = .int .i64 (arity op : Nat) ∧ v1 = w')
    case first =>
      by_cases h1 : op = 1
      · subst h1
        go_wp2_with fail
        go_meet
        exact ⟨rfl, rfl⟩
      have f1 : decide (op = 1) = false := decide_eq_false h1
      have e1 : (op == 1) = false := by simpa using h1
      by_cases h2 : op = 2
      · subst h2
        go_wp2_with fail
        go_meet
        exact ⟨rfl, rfl⟩
      have f2 : decide (op = 2) = false := decide_eq_false h2
      have e2 : (op == 2) = false := by simpa using h2
      by_cases h13 : op = 13
      · subst h13
        go_wp2_with fail
        go_meet
        exact ⟨rfl, rfl⟩
      have f13 : decide (op = 13) = false := decide_eq_false h13
      have e13 : (op == 13) = false := by simpa using h13
      by_cases h14 : op = 14
      · subst h14
        go_wp2_with fail
        go_meet
        exact ⟨rfl, rfl⟩
      have f14 : decide (op = 14) = false := decide_eq_false h14
      have e14 : (op == 14) = false := by simpa using h14
      by_cases h6 : op = 6
      · subst h6
        go_wp2_with fail
        go_meet
        exact ⟨rfl, rfl⟩
      have f6 : decide (op = 6) = false := decide_eq_false h6
      have e6 : (op == 6) = false := by simpa using h6
      by_cases h15 : op = 15
      · subst h15
        go_wp2_with fail
        go_meet
        exact ⟨rfl, rfl⟩
      have f15 : decide (op = 15) = false := decide_eq_false h15
      have e15 : (op == 15) = false := by simpa using h15
      by_cases h20 : op = 20
      · subst h20
        go_wp2_with fail
        go_meet
        exact ⟨rfl, rfl⟩
      have f20 : decide (op = 20) = false := decide_eq_false h20
      have e20 : (op == 20) = false := by simpa using h20
      by_cases h21 : op = 21
      · subst h21
        go_wp2_with fail
        go_meet
        exact ⟨rfl, rfl⟩
      have f21 : decide (op = 21) = false := decide_eq_false h21
      have e21 : (op == 21) = false := by simpa using h21
      by_cases h22 : op = 22
      · subst h22
        go_wp2_with fail
        go_meet
        exact ⟨rfl, rfl⟩
      have f22 : decide (op = 22) = false := decide_eq_false h22
      have e22 : (op == 22) = false := by simpa using h22
      go_wp2_with fail
      go_meet
      exact ⟨by rw [arity_two (by omega) (by omega)]; rfl, rfl⟩
    case rest =>
      obtain ⟨rfl, rfl⟩ := hcut
      obtain ⟨K, hK⟩ : ∃ K, arity op = K := ⟨_, rfl⟩
      rw [hK]
      have HK := Lib.hid hK
      clear hK
      by_cases h1 : op < 1
      · have f1 : decide (op < 1) = true := by simpa using h1
        go_wp2_with fail
        go_ret
        exact ⟨⟨false, rfl, nofun⟩, bt⟩
      have f1 : decide (op < 1) = false := by simpa using h1
      by_cases h2 : 24 < op
      · have f2 : decide (24 < op) = true := by simpa using h2
        go_wp2_with fail
        go_ret
        exact ⟨⟨false, rfl, nofun⟩, bt⟩
      have f2 : decide (24 < op) = false := by simpa using h2
      by_cases h3 : len = K
      · subst h3
        go_upto_region 16 with fail
        clear f1 f2
        by_cases g1 : op = 1
        · subst g1
          by_cases hq : n < 0
          · have q1 : decide (n < 0) = true := by simpa using hq
            go_wp2_with fail
            go_ret
            exact ⟨⟨false, rfl, nofun⟩, bt⟩
          have q5 : decide (n < 0) = false := by simpa using hq
          clear hq
          by_cases hq : 1073741824 < n
          · have q1 : decide (1073741824 < n) = true := by simpa using hq
            go_wp2_with fail
            go_ret
            exact ⟨⟨false, rfl, nofun⟩, bt⟩
          have q14 : decide (1073741824 < n) = false := by simpa using hq
          clear hq
          go_wp2_with fail
          clear c0 c1 c2 c3
          go_loopw [6] (fun i w' => ∃ j : Nat, j ≤ len ∧ i = .int .i64 (j : Nat) ∧ (∀ k, k < j → MayP (sub k)) ∧ w'.heap[gt]? = some (.cells #[.int .i64 1, .int .i64 n, .int .i64 pl, .slice a len cap] 40 (0, 0)) ∧ Below w.heap.size w w') (fun i _ => len - (intOf i).toNat)
          case atStart => exact ⟨0, Nat.zero_le _, rfl, fun k hk => absurd hk (Nat.not_lt_zero k), pt, bt⟩
          case round =>
            clear pt bt
            obtain ⟨j, hj, rfl, hall, pt, bt⟩ := hrel
            have HALL := Lib.hid hall
            clear hall
            have c3 : wr.cell? ⟨gt, 3, none⟩ = some (.slice a len cap) := cell_of_row _ _ 3 _ _ _ pt
            by_cases hjl : j < len
            · have f1 : decide (j < len) = true := by simpa using hjl
              obtain ⟨b, off, rfl, hlt, hi⟩ := hat.resolve_left (by omega)
              obtain ⟨o', n', p', a', l', c', g0, g1, g2, g3, g4⟩ := hi j hjl
              have y0 : wr.cell? ⟨b, off + j * 4, none⟩ = some (.int .i64 o') := (bt.cell (p := ⟨b, _, none⟩) hlt).trans g0
              have y1 : wr.cell? ⟨b, off + j * 4 + 1, none⟩ = some (.int .i64 n') := (bt.cell (p := ⟨b, _, none⟩) hlt).trans g1
              have y2 : wr.cell? ⟨b, off + j * 4 + 2, none⟩ = some (.int .i64 p') := (bt.cell (p := ⟨b, _, none⟩) hlt).trans g2
              have y3 : wr.cell? ⟨b, off + j * 4 + 3, none⟩ = some (.slice a' l' c') := (bt.cell (p := ⟨b, _, none⟩) hlt).trans g3
              go_wp2_with fail
              refine (ih j _ _ _ (g4.mono bt) hvars).mono ?_
              rintro e w2 ⟨⟨B, rfl, hB⟩, b2⟩
              have pt2 := (b2.block gt (Array.getElem?_eq_some_iff.1 pt).1).trans pt
              have bt2 := below_then bt b2
              clear y0 y1 y2 y3 c3
              cases B with
              | false =>
                go_wp2_with fail
                go_ret
                exact ⟨⟨false, rfl, nofun⟩, bt2⟩
              | true =>
                have hMj := hB rfl
                go_wp2_with fail
                refine ⟨⟨j + 1, by omega, by simp, fun k hk => ?_, pt2, bt2⟩, by simp [intOf]; omega⟩
                rcases Nat.lt_succ_iff_lt_or_eq.1 hk with h | rfl
                · exact HALL.out k h
                · exact hMj
            · have f1 : decide (j < len) = false := by simpa using hjl
              obtain rfl : len = j := by omega
              go_wp2_with fail
              go_ret
              exact ⟨⟨true, rfl, fun _ => ⟨by omega, by omega, HK.out.symm, HALL.out⟩⟩, bt⟩
        by_cases g2 : op = 2
        · subst g2
          by_cases hq : n < 0
          · have q1 : decide (n < 0) = true := by simpa using hq
            go_wp2_with fail
            go_ret
            exact ⟨⟨false, rfl, nofun⟩, bt⟩
          have q5 : decide (n < 0) = false := by simpa using hq
          clear hq
          by_cases hq : vars ≤ n
          · have q1 : decide (vars ≤ n) = true := by simpa using hq
            go_wp2_with fail
            go_ret
            exact ⟨⟨false, rfl, nofun⟩, bt⟩
          have q8 : decide (vars ≤ n) = false := by simpa using hq
          clear hq
          go_wp2_with fail
          clear c0 c1 c2 c3
          go_loopw [6] (fun i w' => ∃ j : Nat, j ≤ len ∧ i = .int .i64 (j : Nat) ∧ (∀ k, k < j → MayP (sub k)) ∧ w'.heap[gt]? = some (.cells #[.int .i64 2, .int .i64 n, .int .i64 pl, .slice a len cap] 40 (0, 0)) ∧ Below w.heap.size w w') (fun i _ => len - (intOf i).toNat)
          case atStart => exact ⟨0, Nat.zero_le _, rfl, fun k hk => absurd hk (Nat.not_lt_zero k), pt, bt⟩
          case round =>
            clear pt bt
            obtain ⟨j, hj, rfl, hall, pt, bt⟩ := hrel
            have HALL := Lib.hid hall
            clear hall
            have c3 : wr.cell? ⟨gt, 3, none⟩ = some (.slice a len cap) := cell_of_row _ _ 3 _ _ _ pt
            by_cases hjl : j < len
            · have f1 : decide (j < len) = true := by simpa using hjl
              obtain ⟨b, off, rfl, hlt, hi⟩ := hat.resolve_left (by omega)
              obtain ⟨o', n', p', a', l', c', g0, g1, g2, g3, g4⟩ := hi j hjl
              have y0 : wr.cell? ⟨b, off + j * 4, none⟩ = some (.int .i64 o') := (bt.cell (p := ⟨b, _, none⟩) hlt).trans g0
              have y1 : wr.cell? ⟨b, off + j * 4 + 1, none⟩ = some (.int .i64 n') := (bt.cell (p := ⟨b, _, none⟩) hlt).trans g1
              have y2 : wr.cell? ⟨b, off + j * 4 + 2, none⟩ = some (.int .i64 p') := (bt.cell (p := ⟨b, _, none⟩) hlt).trans g2
              have y3 : wr.cell? ⟨b, off + j * 4 + 3, none⟩ = some (.slice a' l' c') := (bt.cell (p := ⟨b, _, none⟩) hlt).trans g3
              go_wp2_with fail
              refine (ih j _ _ _ (g4.mono bt) hvars).mono ?_
              rintro e w2 ⟨⟨B, rfl, hB⟩, b2⟩
              have pt2 := (b2.block gt (Array.getElem?_eq_some_iff.1 pt).1).trans pt
              have bt2 := below_then bt b2
              clear y0 y1 y2 y3 c3
              cases B with
              | false =>
                go_wp2_with fail
                go_ret
                exact ⟨⟨false, rfl, nofun⟩, bt2⟩
              | true =>
                have hMj := hB rfl
                go_wp2_with fail
                refine ⟨⟨j + 1, by omega, by simp, fun k hk => ?_, pt2, bt2⟩, by simp [intOf]; omega⟩
                rcases Nat.lt_succ_iff_lt_or_eq.1 hk with h | rfl
                · exact HALL.out k h
                · exact hMj
            · have f1 : decide (j < len) = false := by simpa using hjl
              obtain rfl : len = j := by omega
              go_wp2_with fail
              go_ret
              exact ⟨⟨true, rfl, fun _ => ⟨by omega, by omega, HK.out.symm, HALL.out⟩⟩, bt⟩
        have a1 : decide (op = 1) = false := decide_eq_false g1
        have a2 : decide (op = 2) = false := decide_eq_false g2
        have b1 : (op == 1) = false := by simpa using g1
        have b2 : (op == 2) = false := by simpa using g2
        have a3 : decide (2 < op) = true := by simp; omega
        by_cases hq : n = 0
        · subst hq
          go_wp2_with fail
          clear c0 c1 c2 c3
          go_loopw [6] (fun i w' => ∃ j : Nat, j ≤ len ∧ i = .int .i64 (j : Nat) ∧ (∀ k, k < j → MayP (sub k)) ∧ w'.heap[gt]? = some (.cells #[.int .i64 op, .int .i64 0, .int .i64 pl, .slice a len cap] 40 (0, 0)) ∧ Below w.heap.size w w') (fun i _ => len - (intOf i).toNat)
          case atStart => exact ⟨0, Nat.zero_le _, rfl, fun k hk => absurd hk (Nat.not_lt_zero k), pt, bt⟩
          case round =>
            clear pt bt
            obtain ⟨j, hj, rfl, hall, pt, bt⟩ := hrel
            have HALL := Lib.hid hall
            clear hall
            have c3 : wr.cell? ⟨gt, 3, none⟩ = some (.slice a len cap) := cell_of_row _ _ 3 _ _ _ pt
            by_cases hjl : j < len
            · have f1 : decide (j < len) = true := by simpa using hjl
              obtain ⟨b, off, rfl, hlt, hi⟩ := hat.resolve_left (by omega)
              obtain ⟨o', n', p', a', l', c', g0, g1, g2, g3, g4⟩ := hi j hjl
              have y0 : wr.cell? ⟨b, off + j * 4, none⟩ = some (.int .i64 o') := (bt.cell (p := ⟨b, _, none⟩) hlt).trans g0
              have y1 : wr.cell? ⟨b, off + j * 4 + 1, none⟩ = some (.int .i64 n') := (bt.cell (p := ⟨b, _, none⟩) hlt).trans g1
              have y2 : wr.cell? ⟨b, off + j * 4 + 2, none⟩ = some (.int .i64 p') := (bt.cell (p := ⟨b, _, none⟩) hlt).trans g2
              have y3 : wr.cell? ⟨b, off + j * 4 + 3, none⟩ = some (.slice a' l' c') := (bt.cell (p := ⟨b, _, none⟩) hlt).trans g3
              go_wp2_with fail
              refine (ih j _ _ _ (g4.mono bt) hvars).mono ?_
              rintro e w2 ⟨⟨B, rfl, hB⟩, b2⟩
              have pt2 := (b2.block gt (Array.getElem?_eq_some_iff.1 pt).1).trans pt
              have bt2 := below_then bt b2
              clear y0 y1 y2 y3 c3
              cases B with
              | false =>
                go_wp2_with fail
                go_ret
                exact ⟨⟨false, rfl, nofun⟩, bt2⟩
              | true =>
                have hMj := hB rfl
                go_wp2_with fail
                refine ⟨⟨j + 1, by omega, by simp, fun k hk => ?_, pt2, bt2⟩, by simp [intOf]; omega⟩
                rcases Nat.lt_succ_iff_lt_or_eq.1 hk with h | rfl
                · exact HALL.out k h
                · exact hMj
            · have f1 : decide (j < len) = false := by simpa using hjl
              obtain rfl : len = j := by omega
              go_wp2_with fail
              go_ret
              exact ⟨⟨true, rfl, fun _ => ⟨by omega, by omega, HK.out.symm, HALL.out⟩⟩, bt⟩
        · have q1 : decide (n = 0) = false := decide_eq_false hq
          have q2 : (n == 0) = false := by simpa using hq
          go_wp2_with fail
          go_ret
          exact ⟨⟨false, rfl, nofun⟩, bt⟩
      · have e1 : decide (len = K) = false := decide_eq_false h3
        have e2 : ((len : Int) == (K : Int)) = false := by simp; omega
        have e3 : decide ((len : Int) = (K : Int)) = false := by simp; omega
        go_wp2_with fail
        go_ret
        exact ⟨⟨false, rfl, nofun⟩, bt⟩
end Go.Proofs.Ytpabnpgbclfcfaa
