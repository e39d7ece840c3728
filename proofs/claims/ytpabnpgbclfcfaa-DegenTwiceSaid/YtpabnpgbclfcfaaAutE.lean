/- Automata in memory; the document's Right (by gen19e.py). -/
import Derived.Test.YtpabnpgbclfcfaaAutD
namespace Go.Proofs.Ytpabnpgbclfcfaa
open Go.RowKit
set_option linter.unusedVariables false
set_option linter.unusedSimpArgs false

def LitsAt (w : World) (a : Option Addr) (n : Nat) (ln : Nat → Nat) (lit : Nat → Nat → T) : Prop :=
  n = 0 ∨ ∃ b off, a = some ⟨b, off, none⟩ ∧ b < w.heap.size ∧ ∀ i, i < n → ∃ (ra : Option Addr) (rc : Nat), w.cell? ⟨b, off + i, none⟩ = some (.slice ra (ln i) rc) ∧ ln i ≤ 9223372036854775807 ∧ PartsAt w ra (ln i) (lit i)
theorem PartsAt.mono {w w' : World} {a : Option Addr} {len : Nat} {sub : Nat → T} (h : PartsAt w a len sub) (hb : Below w.heap.size w w') : PartsAt w' a len sub := by
  rcases h with h0 | ⟨b, off, ha, hlt, hi⟩
  · exact .inl h0
  · refine .inr ⟨b, off, ha, Nat.lt_of_lt_of_le hlt hb.size, fun i hil => ?_⟩
    obtain ⟨o', n', p', a', l', c', g0, g1, g2, g3, g4⟩ := hi i hil
    exact ⟨o', n', p', a', l', c', (hb.cell (p := ⟨b, _, none⟩) hlt).trans g0, (hb.cell (p := ⟨b, _, none⟩) hlt).trans g1, (hb.cell (p := ⟨b, _, none⟩) hlt).trans g2, (hb.cell (p := ⟨b, _, none⟩) hlt).trans g3, g4.mono hb⟩
theorem LitsAt.mono {w w' : World} {a : Option Addr} {n : Nat} {ln : Nat → Nat} {lit : Nat → Nat → T} (h : LitsAt w a n ln lit) (hb : Below w.heap.size w w') : LitsAt w' a n ln lit := by
  rcases h with h0 | ⟨b, off, ha, hlt, hi⟩
  · exact .inl h0
  · refine .inr ⟨b, off, ha, Nat.lt_of_lt_of_le hlt hb.size, fun i hil => ?_⟩
    obtain ⟨ra, rc, g0, g1, g2⟩ := hi i hil
    exact ⟨ra, rc, (hb.cell (p := ⟨b, _, none⟩) hlt).trans g0, g1, g2.mono hb⟩
theorem LitsAt.cell {w : World} {a : Option Addr} {n : Nat} {ln : Nat → Nat} {lit : Nat → Nat → T} (h : LitsAt w a n ln lit) {j : Nat} (hj : j < n) : ∃ b off, a = some ⟨b, off, none⟩ ∧ b < w.heap.size ∧ ∃ (ra : Option Addr) (rc : Nat), w.cell? ⟨b, off + j, none⟩ = some (.slice ra (ln j) rc) ∧ ln j ≤ 9223372036854775807 ∧ PartsAt w ra (ln j) (lit j) := by
  rcases h with h0 | ⟨b, off, ha, hlt, hi⟩
  · omega
  · exact ⟨b, off, ha, hlt, hi j hj⟩
theorem PartsAt.cell {w : World} {a : Option Addr} {n : Nat} {sub : Nat → T} (h : PartsAt w a n sub) {j : Nat} (hj : j < n) : ∃ b off, a = some ⟨b, off, none⟩ ∧ b < w.heap.size ∧ ∃ (o' n' p' : Int) (a' : Option Addr) (l' c' : Nat),
        w.cell? ⟨b, off + j * 4, none⟩ = some (.int .i64 o') ∧ w.cell? ⟨b, off + j * 4 + 1, none⟩ = some (.int .i64 n') ∧ w.cell? ⟨b, off + j * 4 + 2, none⟩ = some (.int .i64 p') ∧ w.cell? ⟨b, off + j * 4 + 3, none⟩ = some (.slice a' l' c') ∧ TreeAt w (sub j) (.agg #[.int .i64 o', .int .i64 n', .int .i64 p', .slice a' l' c']) := by
  rcases h with h0 | ⟨b, off, ha, hlt, hi⟩
  · omega
  · exact ⟨b, off, ha, hlt, hi j hj⟩
structure AutAt (w : World) (la na ia ca : Option Addr) (n nn il cn : Nat) (ln : Nat → Nat) (lit : Nat → Nat → T) (next : Nat → List Int) (init : List Int) (acc : Nat → List Int) : Prop where
  lits : LitsAt w la n ln lit
  next : WordAt w na nn next
  init : IntsAt w ia il init
  acc : WordAt w ca cn acc
  hn : n ≤ 9223372036854775807
  hnn : nn ≤ 9223372036854775807
  hcn : cn ≤ 9223372036854775807
theorem AutAt.mono {w w' : World} {la na ia ca : Option Addr} {n nn il cn : Nat} {ln : Nat → Nat} {lit : Nat → Nat → T} {next : Nat → List Int} {init : List Int} {acc : Nat → List Int} (h : AutAt w la na ia ca n nn il cn ln lit next init acc) (hb : Below w.heap.size w w') : AutAt w' la na ia ca n nn il cn ln lit next init acc :=
  ⟨h.lits.mono hb, h.next.mono hb, h.init.mono hb, h.acc.mono hb, h.hn, h.hnn, h.hcn⟩
def RightP (n : Nat) (ln : Nat → Nat) (lit : Nat → Nat → T) (nn : Nat) (next : Nat → List Int) (init : List Int) (cn : Nat) (acc : Nat → List Int) : Prop :=
  StP init n ∧ nn = n ∧ (∀ q, q < n → StP (next q) n ∧ ∀ i, i < ln q → tyT (lit q i) = 2) ∧ ∀ i, i < cn → StP (acc i) n
def RightR (n : Nat) (ln : Nat → Nat) (lit : Nat → Nat → T) (nn : Nat) (next : Nat → List Int) (init : List Int) (cn : Nat) (acc : Nat → List Int) (e : Ending) : Prop :=
  ∃ G : Bool, e = .returned (.bool G) ∧ (G = true ↔ RightP n ln lit nn next init cn acc)
set_option maxRecDepth 20000 in
set_option maxHeartbeats 2000000 in
theorem right_any18 (w : World) (la na ia ca : Option Addr) (n lc nn nc il ic cn cc : Nat) (ln : Nat → Nat) (lit : Nat → Nat → T) (next : Nat → List Int) (init : List Int) (acc : Nat → List Int) (h : AutAt w la na ia ca n nn il cn ln lit next init acc) :
    Calls Try.prog 6 #[.agg #[.slice la n lc, .slice na nn nc, .slice ia il ic, .slice ca cn cc]] w fun e w' => RightR n ln lit nn next init cn acc e ∧ Below w.heap.size w w' := by
  obtain ⟨RP, hRP⟩ : ∃ P, RightP n ln lit nn next init cn acc = P := ⟨_, rfl⟩
  have HRP := Lib.hid hRP
  unfold RightR
  rw [hRP]
  clear hRP
  have hn := h.hn
  have hnn := h.hnn
  have hcn := h.hcn
  have A0 := (Below.refl w.heap.size w).alloc (Nat.le_refl _) (.cells #[.slice la n lc, .slice na nn nc, .slice ia il ic, .slice ca cn cc] 26)
  have pt : (w.alloc (.cells #[.slice la n lc, .slice na nn nc, .slice ia il ic, .slice ca cn cc] 26)).heap[w.heap.size]? = some (.cells #[.slice la n lc, .slice na nn nc, .slice ia il ic, .slice ca cn cc] 26 (0, 0)) := heap_alloc_new _ _
  go_enter Try.func6, Try.ntmps6
  go_upto_region 1 with fail
  obtain ⟨v1, hv⟩ : ∃ v, w.alloc (.cells #[.slice la n lc, .slice na nn nc, .slice ia il ic, .slice ca cn cc] 26) = v := ⟨_, rfl⟩
  obtain ⟨g, hg⟩ : ∃ g, w.heap.size = g := ⟨_, rfl⟩
  rw [hv] at pt A0 ⊢
  rw [hg] at pt ⊢
  have bt := A0
  have hgw : w.heap.size ≤ g := Nat.le_of_eq hg
  clear hv hg A0
  have c0 : v1.cell? ⟨g, 0, none⟩ = some (.slice la n lc) := cell_of_row _ _ 0 _ _ _ pt
  have c1 : v1.cell? ⟨g, 1, none⟩ = some (.slice na nn nc) := cell_of_row _ _ 1 _ _ _ pt
  have c2 : v1.cell? ⟨g, 2, none⟩ = some (.slice ia il ic) := cell_of_row _ _ 2 _ _ _ pt
  have c3 : v1.cell? ⟨g, 3, none⟩ = some (.slice ca cn cc) := cell_of_row _ _ 3 _ _ _ pt
  go_wp2_with fail
  refine (states_any _ ia il ic init (n : Nat) (h.init.mono bt)).mono ?_
  rintro e w2 ⟨rfl, b2⟩
  replace pt := (b2.block g (Array.getElem?_eq_some_iff.1 pt).1).trans pt
  replace bt := below_then bt b2
  clear c0 c1 c2 c3
  have c0 : w2.cell? ⟨g, 0, none⟩ = some (.slice la n lc) := cell_of_row _ _ 0 _ _ _ pt
  have c1 : w2.cell? ⟨g, 1, none⟩ = some (.slice na nn nc) := cell_of_row _ _ 1 _ _ _ pt
  have c2 : w2.cell? ⟨g, 2, none⟩ = some (.slice ia il ic) := cell_of_row _ _ 2 _ _ _ pt
  have c3 : w2.cell? ⟨g, 3, none⟩ = some (.slice ca cn cc) := cell_of_row _ _ 3 _ _ _ pt
  obtain ⟨S1, hS1⟩ : ∃ S, decide (StP init (n : Nat)) = S := ⟨_, rfl⟩
  rw [hS1]
  have HS1 := Lib.hid hS1
  clear hS1
  cases S1 with
  | false =>
    go_wp2_with fail
    go_ret
    exact ⟨⟨false, rfl, by simp, fun hr => by have := (HRP.out ▸ hr : RightP n ln lit nn next init cn acc).1; exact absurd this (of_decide_eq_false HS1.out)⟩, bt⟩
  | true =>
  by_cases hne : nn = n
  case neg =>
    have e1 : ((nn : Int) != (n : Int)) = true := by simp; omega
    go_wp2_with fail
    go_ret
    exact ⟨⟨false, rfl, by simp, fun hr => by have := (HRP.out ▸ hr : RightP n ln lit nn next init cn acc).2.1; exact absurd this hne⟩, bt⟩
  subst hne
  have e1 : ((nn : Int) != (nn : Int)) = false := by simp
  go_wp2_with fail
  go_loopw [5] (fun i w' => ∃ q : Nat, q ≤ nn ∧ i = .int .i64 (q : Nat) ∧ Hid (∀ p, p < q → StP (next p) nn ∧ ∀ i, i < ln p → tyT (lit p i) = 2) ∧ w'.heap[g]? = some (.cells #[.slice la nn lc, .slice na nn nc, .slice ia il ic, .slice ca cn cc] 26 (0, 0)) ∧ Below w.heap.size w w') (fun i _ => nn - (intOf i).toNat)
  case atStart => exact ⟨0, Nat.zero_le _, rfl, Lib.hid (fun p hp => by omega), pt, bt⟩
  case round =>
    clear pt bt c0 c1 c2 c3
    obtain ⟨q, hq, rfl, HQ, pt, bt⟩ := hrel
    have c0 : wr.cell? ⟨g, 0, none⟩ = some (.slice la nn lc) := cell_of_row _ _ 0 _ _ _ pt
    have c1 : wr.cell? ⟨g, 1, none⟩ = some (.slice na nn nc) := cell_of_row _ _ 1 _ _ _ pt
    have c2 : wr.cell? ⟨g, 2, none⟩ = some (.slice ia il ic) := cell_of_row _ _ 2 _ _ _ pt
    have c3 : wr.cell? ⟨g, 3, none⟩ = some (.slice ca cn cc) := cell_of_row _ _ 3 _ _ _ pt
    by_cases hqn : q < nn
    · have f1 : decide (q < nn) = true := by simpa using hqn
      obtain ⟨b1, o1, rfl, hb1, x1, l1, k1, e2, r1⟩ := (h.next.mono bt).cell hqn
      go_wp2_with fail
      refine (states_any _ x1 l1 k1 (next q) (nn : Nat) r1).mono ?_
      rintro e w3 ⟨rfl, b3⟩
      replace pt := (b3.block g (Array.getElem?_eq_some_iff.1 pt).1).trans pt
      replace bt := below_then bt b3
      clear c0 c1 c2 c3 e2 r1
      have c0 : w3.cell? ⟨g, 0, none⟩ = some (.slice la nn lc) := cell_of_row _ _ 0 _ _ _ pt
      have c1 : w3.cell? ⟨g, 1, none⟩ = some (.slice (some ⟨b1, o1, none⟩) nn nc) := cell_of_row _ _ 1 _ _ _ pt
      have c2 : w3.cell? ⟨g, 2, none⟩ = some (.slice ia il ic) := cell_of_row _ _ 2 _ _ _ pt
      have c3 : w3.cell? ⟨g, 3, none⟩ = some (.slice ca cn cc) := cell_of_row _ _ 3 _ _ _ pt
      obtain ⟨S2, hS2⟩ : ∃ S, decide (StP (next q) (nn : Nat)) = S := ⟨_, rfl⟩
      rw [hS2]
      have HS2 := Lib.hid hS2
      clear hS2
      cases S2 with
      | false =>
        go_wp2_with fail
        go_ret
        exact ⟨⟨false, rfl, by simp, fun hr => by have := ((HRP.out ▸ hr : RightP nn ln lit nn next init cn acc).2.2.1 q hqn).1; exact absurd this (of_decide_eq_false HS2.out)⟩, bt⟩
      | true =>
      go_wp2_with fail
      go_loopw [7] (fun i w' => ∃ j : Nat, j ≤ ln q ∧ i = .int .i64 (j : Nat) ∧ Hid (∀ i, i < j → tyT (lit q i) = 2) ∧ w'.heap[g]? = some (.cells #[.slice la nn lc, .slice (some ⟨b1, o1, none⟩) nn nc, .slice ia il ic, .slice ca cn cc] 26 (0, 0)) ∧ Below w.heap.size w w') (fun i _ => ln q - (intOf i).toNat)
      case atStart => exact ⟨0, Nat.zero_le _, rfl, Lib.hid (fun p hp => by omega), pt, bt⟩
      case round =>
        clear pt bt c0 c1 c2 c3
        obtain ⟨j, hj, rfl, HJ, pt, bt⟩ := hrel
        obtain ⟨b4, o4, rfl, hb4, x4, k4, e4, s4, r4⟩ := (h.lits.mono bt).cell hqn
        have c0 : wr.cell? ⟨g, 0, none⟩ = some (.slice (some ⟨b4, o4, none⟩) nn lc) := cell_of_row _ _ 0 _ _ _ pt
        by_cases hjl : j < ln q
        · have f2 : decide (j < ln q) = true := by simpa using hjl
          obtain ⟨b5, o5, rfl, hb5, o', n', p', a', l', c', g0, g1, g2, g3, g4⟩ := r4.cell hjl
          go_wp2_with fail
          refine (lit_any _ (lit q j) _ g4).mono ?_
          rintro e w5 ⟨rfl, b5⟩
          replace pt := (b5.block g (Array.getElem?_eq_some_iff.1 pt).1).trans pt
          replace bt := below_then bt b5
          obtain ⟨S3, hS3⟩ : ∃ S, decide (tyT (lit q j) = 2) = S := ⟨_, rfl⟩
          rw [hS3]
          have HS3 := Lib.hid hS3
          clear hS3 c0 e4 g0 g1 g2 g3 g4
          cases S3 with
          | false =>
            go_wp2_with fail
            go_ret
            exact ⟨⟨false, rfl, by simp, fun hr => by have := ((HRP.out ▸ hr : RightP nn ln lit nn next init cn acc).2.2.1 q hqn).2 j hjl; exact absurd this (of_decide_eq_false HS3.out)⟩, bt⟩
          | true =>
            go_wp2_with fail
            refine ⟨⟨j + 1, by omega, by simp, Lib.hid (fun i hi => ?_), pt, bt⟩, by simp [intOf]; omega⟩
            by_cases hij : i = j
            · rw [hij]; exact of_decide_eq_true HS3.out
            · exact HJ.out i (by omega)
        · have f2 : decide (j < ln q) = false := by simpa using hjl
          obtain rfl : j = ln q := by omega
          go_wp2_with fail
          refine ⟨⟨q + 1, by omega, by simp, Lib.hid (fun p hp => ?_), pt, bt⟩, by simp [intOf]; omega⟩
          by_cases hpq : p = q
          · rw [hpq]; exact ⟨of_decide_eq_true HS2.out, HJ.out⟩
          · exact HQ.out p (by omega)
    · have f1 : decide (q < nn) = false := by simpa using hqn
      obtain rfl : q = nn := by omega
      go_wp2_with fail
      go_loopw [9] (fun i w' => ∃ j : Nat, j ≤ cn ∧ i = .int .i64 (j : Nat) ∧ Hid (∀ i, i < j → StP (acc i) q) ∧ w'.heap[g]? = some (.cells #[.slice la q lc, .slice na q nc, .slice ia il ic, .slice ca cn cc] 26 (0, 0)) ∧ Below w.heap.size w w') (fun i _ => cn - (intOf i).toNat)
      case atStart => exact ⟨0, Nat.zero_le _, rfl, Lib.hid (fun p hp => by omega), pt, bt⟩
      case round =>
        clear pt bt c0 c1 c2 c3
        obtain ⟨j, hj, rfl, HJ, pt, bt⟩ := hrel
        have c3 : wr.cell? ⟨g, 3, none⟩ = some (.slice ca cn cc) := cell_of_row _ _ 3 _ _ _ pt
        by_cases hjl : j < cn
        · have f2 : decide (j < cn) = true := by simpa using hjl
          obtain ⟨b1, o1, rfl, hb1, x1, l1, k1, e2, r1⟩ := (h.acc.mono bt).cell hjl
          go_wp2_with fail
          refine (states_any _ x1 l1 k1 (acc j) (q : Nat) r1).mono ?_
          rintro e w5 ⟨rfl, b5⟩
          replace pt := (b5.block g (Array.getElem?_eq_some_iff.1 pt).1).trans pt
          replace bt := below_then bt b5
          obtain ⟨S3, hS3⟩ : ∃ S, decide (StP (acc j) (q : Nat)) = S := ⟨_, rfl⟩
          rw [hS3]
          have HS3 := Lib.hid hS3
          clear hS3 c3 e2 r1
          cases S3 with
          | false =>
            go_wp2_with fail
            go_ret
            exact ⟨⟨false, rfl, by simp, fun hr => by have := (HRP.out ▸ hr : RightP q ln lit q next init cn acc).2.2.2 j hjl; exact absurd this (of_decide_eq_false HS3.out)⟩, bt⟩
          | true =>
            go_wp2_with fail
            refine ⟨⟨j + 1, by omega, by simp, Lib.hid (fun i hi => ?_), pt, bt⟩, by simp [intOf]; omega⟩
            by_cases hij : i = j
            · rw [hij]; exact of_decide_eq_true HS3.out
            · exact HJ.out i (by omega)
        · have f2 : decide (j < cn) = false := by simpa using hjl
          obtain rfl : j = cn := by omega
          go_wp2_with fail
          go_ret
          exact ⟨⟨true, rfl, fun _ => HRP.out ▸ ⟨of_decide_eq_true HS1.out, rfl, HQ.out, HJ.out⟩, fun _ => rfl⟩, bt⟩
end Go.Proofs.Ytpabnpgbclfcfaa
