/- DegenTwice (by gen19t.py). -/
import Derived.Test.YtpabnpgbclfcfaaAutR
import Derived.Test.YtpabnpgbclfcfaaAutN
import Derived.Test.YtpabnpgbclfcfaaAutEB
import Derived.Test.YtpabnpgbclfcfaaAutEF
import Derived.Test.YtpabnpgbclfcfaaAutEC
namespace Go.Proofs.Ytpabnpgbclfcfaa
open Go.RowKit
set_option linter.unusedVariables false
set_option linter.unusedSimpArgs false
theorem refRight_any (w : World) (wa : Option Addr) (wn wk : Nat) (L : Int) (h1 : wn ≤ 9223372036854775807) :
    Calls Try.prog 8 #[.agg #[.slice wa wn wk, .int .i64 L]] w fun e w' => e = .returned (.bool (decide (1 ≤ wn ∧ 0 ≤ L ∧ L < wn))) ∧ Below w.heap.size w w' := by
  have A := (Below.refl w.heap.size w).alloc (Nat.le_refl _) (.cells #[.slice wa wn wk, .int .i64 L] 28)
  have pt : (w.alloc (.cells #[.slice wa wn wk, .int .i64 L] 28)).heap[w.heap.size]? = some (.cells #[.slice wa wn wk, .int .i64 L] 28 (0, 0)) := heap_alloc_new _ _
  go_enter Try.func8, Try.ntmps8
  go_upto_region 1 with fail
  obtain ⟨v1, hv⟩ : ∃ v, w.alloc (.cells #[.slice wa wn wk, .int .i64 L] 28) = v := ⟨_, rfl⟩
  obtain ⟨gt, hg⟩ : ∃ g, w.heap.size = g := ⟨_, rfl⟩
  rw [hv] at pt A ⊢
  rw [hg] at pt ⊢
  have bt := A
  have hgw : w.heap.size ≤ gt := Nat.le_of_eq hg
  clear hv hg A
  have c0 : v1.cell? ⟨gt, 0, none⟩ = some (.slice wa wn wk) := cell_of_row _ _ 0 _ _ _ pt
  have c1 : v1.cell? ⟨gt, 1, none⟩ = some (.int .i64 L) := cell_of_row _ _ 1 _ _ _ pt
  by_cases h0 : 1 ≤ wn
  · have f0 : decide (1 ≤ wn) = true := by simpa using h0
    have f00 : decide ((1 : Int) ≤ (wn : Int)) = true := by simp; omega
    by_cases h : 0 ≤ L
    · have f1 : decide (0 ≤ L) = true := by simpa using h
      by_cases h2 : L < wn
      · have f2 : decide (L < (wn : Int)) = true := by simpa using h2
        have H := Lib.hid (show decide (1 ≤ wn ∧ 0 ≤ L ∧ L < wn) = true by simp; omega)
        clear h0 h h2
        go_wp2_with fail
        go_ret
        exact ⟨by rw [H.out]; rfl, bt⟩
      · have f2 : decide (L < (wn : Int)) = false := by simpa using h2
        have H := Lib.hid (show decide (1 ≤ wn ∧ 0 ≤ L ∧ L < wn) = false by simp; omega)
        clear h0 h h2
        go_wp2_with fail
        go_ret
        exact ⟨by rw [H.out]; rfl, bt⟩
    · have f1 : decide (0 ≤ L) = false := by simpa using h
      have H := Lib.hid (show decide (1 ≤ wn ∧ 0 ≤ L ∧ L < wn) = false by simp; omega)
      clear h0 h
      go_wp2_with fail
      go_ret
      exact ⟨by rw [H.out]; rfl, bt⟩
  · have f0 : decide (1 ≤ wn) = false := by simpa using h0
    have f00 : decide ((1 : Int) ≤ (wn : Int)) = false := by simp; omega
    have H := Lib.hid (show decide (1 ≤ wn ∧ 0 ≤ L ∧ L < wn) = false by simp; omega)
    clear h0
    go_wp2_with fail
    go_ret
    exact ⟨by rw [H.out]; rfl, bt⟩
theorem wrapI_ok (z : Int) (h0 : 0 ≤ z) (h1 : z ≤ 1000000000000) : IntKind.i64.wrap z = z := by simp [IntKind.wrap, IntKind.bits, IntKind.signed]; omega
theorem wrapR_ok (z : Int) (h0 : 0 ≤ z) (h1 : z ≤ 1000000000000) : RowKit.wrap64 z = z := by unfold RowKit.wrap64; omega
set_option maxRecDepth 100000 in
set_option maxHeartbeats 8000000 in
theorem degentwice_any (w : World) (la na ia ca : Option Addr) (n lc nn nc il ic cn cc : Nat) (ln : Nat → Nat) (lit : Nat → Nat → T) (next : Nat → List Int) (init : List Int) (acc : Nat → List Int) (h : AutAt w la na ia ca n nn il cn ln lit next init acc) (hR : RoomP n nn il cn ln next acc) (wa : Option Addr) (wn wk : Nat) (L : Int) (hwn : wn ≤ 9223372036854775807) :
    Calls Try.prog 3 #[.agg #[.slice la n lc, .slice na nn nc, .slice ia il ic, .slice ca cn cc], .agg #[.slice wa wn wk, .int .i64 L]] w fun e w' => e = .returned (.bool true) ∧ Below w.heap.size w w' := by
  have hcn := hR.r2
  have HR := Lib.hid hR
  clear hR
  obtain ⟨pt, pu, A⟩ := two_new w #[.slice la n lc, .slice na nn nc, .slice ia il ic, .slice ca cn cc] #[.slice wa wn wk, .int .i64 L] (26) 28
  go_enter Try.func3, Try.ntmps3
  go_upto_region 1 with fail
  obtain ⟨v1, hv⟩ : ∃ v, (w.alloc (.cells #[.slice la n lc, .slice na nn nc, .slice ia il ic, .slice ca cn cc] 26)).alloc (.cells #[.slice wa wn wk, .int .i64 L] 28) = v := ⟨_, rfl⟩
  rw [hv] at pt pu A ⊢
  obtain ⟨gu, hgu⟩ : ∃ g, w.heap.size + 1 = g := ⟨_, rfl⟩
  rw [hgu] at pu ⊢
  obtain ⟨g, hgt⟩ : ∃ g, w.heap.size = g := ⟨_, rfl⟩
  rw [hgt] at pt ⊢
  have bt := A
  clear hv hgu hgt A
  have c0 : v1.cell? ⟨g, 0, none⟩ = some (.slice la n lc) := cell_of_row _ _ 0 _ _ _ pt
  have c1 : v1.cell? ⟨g, 1, none⟩ = some (.slice na nn nc) := cell_of_row _ _ 1 _ _ _ pt
  have c2 : v1.cell? ⟨g, 2, none⟩ = some (.slice ia il ic) := cell_of_row _ _ 2 _ _ _ pt
  have c3 : v1.cell? ⟨g, 3, none⟩ = some (.slice ca cn cc) := cell_of_row _ _ 3 _ _ _ pt
  have d0 : v1.cell? ⟨gu, 0, none⟩ = some (.slice wa wn wk) := cell_of_row _ _ 0 _ _ _ pu
  have d1 : v1.cell? ⟨gu, 1, none⟩ = some (.int .i64 L) := cell_of_row _ _ 1 _ _ _ pu
  go_wp2_with fail
  refine (shown_any v1).mono ?_
  rintro e w2 ⟨rfl, b2⟩
  replace pt := (b2.block g (Array.getElem?_eq_some_iff.1 pt).1).trans pt
  replace pu := (b2.block gu (Array.getElem?_eq_some_iff.1 pu).1).trans pu
  replace bt := below_then bt b2
  clear c0 c1 c2 c3 d0 d1
  have c0 : w2.cell? ⟨g, 0, none⟩ = some (.slice la n lc) := cell_of_row _ _ 0 _ _ _ pt
  have c1 : w2.cell? ⟨g, 1, none⟩ = some (.slice na nn nc) := cell_of_row _ _ 1 _ _ _ pt
  have c2 : w2.cell? ⟨g, 2, none⟩ = some (.slice ia il ic) := cell_of_row _ _ 2 _ _ _ pt
  have c3 : w2.cell? ⟨g, 3, none⟩ = some (.slice ca cn cc) := cell_of_row _ _ 3 _ _ _ pt
  have d0 : w2.cell? ⟨gu, 0, none⟩ = some (.slice wa wn wk) := cell_of_row _ _ 0 _ _ _ pu
  have d1 : w2.cell? ⟨gu, 1, none⟩ = some (.int .i64 L) := cell_of_row _ _ 1 _ _ _ pu
  go_wp2_with fail
  refine (few_any18 w2 la na ia ca n lc nn nc il ic cn cc ln lit next init acc 8 (by decide) (h.mono bt) HR.out).mono ?_
  rintro e w3 ⟨⟨G1, rfl, hG1⟩, b3⟩
  replace pt := (b3.block g (Array.getElem?_eq_some_iff.1 pt).1).trans pt
  replace pu := (b3.block gu (Array.getElem?_eq_some_iff.1 pu).1).trans pu
  replace bt := below_then bt b3
  clear c0 c1 c2 c3 d0 d1
  have c0 : w3.cell? ⟨g, 0, none⟩ = some (.slice la n lc) := cell_of_row _ _ 0 _ _ _ pt
  have c1 : w3.cell? ⟨g, 1, none⟩ = some (.slice na nn nc) := cell_of_row _ _ 1 _ _ _ pt
  have c2 : w3.cell? ⟨g, 2, none⟩ = some (.slice ia il ic) := cell_of_row _ _ 2 _ _ _ pt
  have c3 : w3.cell? ⟨g, 3, none⟩ = some (.slice ca cn cc) := cell_of_row _ _ 3 _ _ _ pt
  have d0 : w3.cell? ⟨gu, 0, none⟩ = some (.slice wa wn wk) := cell_of_row _ _ 0 _ _ _ pu
  have d1 : w3.cell? ⟨gu, 1, none⟩ = some (.int .i64 L) := cell_of_row _ _ 1 _ _ _ pu
  have H1 := Lib.hid hG1
  clear hG1
  cases G1 with
  | false =>
    go_wp2_with fail
    go_ret
    exact ⟨rfl, bt⟩
  | true =>
  by_cases hc : 5 < cn
  · have f1 : decide (5 < cn) = true := by simpa using hc
    have f2 : decide ((5 : Int) < (cn : Int)) = true := by simp; omega
    clear hc
    go_wp2_with fail
    go_ret
    exact ⟨rfl, bt⟩
  have f1 : decide (5 < cn) = false := by simpa using hc
  have f2 : decide ((5 : Int) < (cn : Int)) = false := by simp; omega
  have HC := Lib.hid hc
  clear hc
  go_wp2_with fail
  refine (right_any18 w3 la na ia ca n lc nn nc il ic cn cc ln lit next init acc (h.mono bt)).mono ?_
  rintro e w4 ⟨⟨G2, rfl, hG2⟩, b4⟩
  replace pt := (b4.block g (Array.getElem?_eq_some_iff.1 pt).1).trans pt
  replace pu := (b4.block gu (Array.getElem?_eq_some_iff.1 pu).1).trans pu
  replace bt := below_then bt b4
  clear c0 c1 c2 c3 d0 d1
  have c0 : w4.cell? ⟨g, 0, none⟩ = some (.slice la n lc) := cell_of_row _ _ 0 _ _ _ pt
  have c1 : w4.cell? ⟨g, 1, none⟩ = some (.slice na nn nc) := cell_of_row _ _ 1 _ _ _ pt
  have c2 : w4.cell? ⟨g, 2, none⟩ = some (.slice ia il ic) := cell_of_row _ _ 2 _ _ _ pt
  have c3 : w4.cell? ⟨g, 3, none⟩ = some (.slice ca cn cc) := cell_of_row _ _ 3 _ _ _ pt
  have d0 : w4.cell? ⟨gu, 0, none⟩ = some (.slice wa wn wk) := cell_of_row _ _ 0 _ _ _ pu
  have d1 : w4.cell? ⟨gu, 1, none⟩ = some (.int .i64 L) := cell_of_row _ _ 1 _ _ _ pu
  have H2 := Lib.hid hG2
  clear hG2
  cases G2 with
  | false =>
    go_wp2_with fail
    go_ret
    exact ⟨rfl, bt⟩
  | true =>
  go_wp2_with fail
  refine (may_any18 w4 la na ia ca n lc nn nc il ic cn cc ln lit next init acc 3 (by decide) (h.mono bt)).mono ?_
  rintro e w5 ⟨⟨G3, rfl, hG3⟩, b5⟩
  replace pt := (b5.block g (Array.getElem?_eq_some_iff.1 pt).1).trans pt
  replace pu := (b5.block gu (Array.getElem?_eq_some_iff.1 pu).1).trans pu
  replace bt := below_then bt b5
  clear c0 c1 c2 c3 d0 d1
  have c0 : w5.cell? ⟨g, 0, none⟩ = some (.slice la n lc) := cell_of_row _ _ 0 _ _ _ pt
  have c1 : w5.cell? ⟨g, 1, none⟩ = some (.slice na nn nc) := cell_of_row _ _ 1 _ _ _ pt
  have c2 : w5.cell? ⟨g, 2, none⟩ = some (.slice ia il ic) := cell_of_row _ _ 2 _ _ _ pt
  have c3 : w5.cell? ⟨g, 3, none⟩ = some (.slice ca cn cc) := cell_of_row _ _ 3 _ _ _ pt
  have d0 : w5.cell? ⟨gu, 0, none⟩ = some (.slice wa wn wk) := cell_of_row _ _ 0 _ _ _ pu
  have d1 : w5.cell? ⟨gu, 1, none⟩ = some (.int .i64 L) := cell_of_row _ _ 1 _ _ _ pu
  have H3 := Lib.hid hG3
  clear hG3
  cases G3 with
  | false =>
    go_wp2_with fail
    go_ret
    exact ⟨rfl, bt⟩
  | true =>
  go_wp2_with fail
  refine (refRight_any w5 wa wn wk L hwn).mono ?_
  rintro e w6 ⟨he4, b6⟩
  obtain ⟨G4, hG4⟩ : ∃ G, decide (1 ≤ wn ∧ 0 ≤ L ∧ L < wn) = G := ⟨_, rfl⟩
  rw [hG4] at he4
  subst he4
  replace pt := (b6.block g (Array.getElem?_eq_some_iff.1 pt).1).trans pt
  replace pu := (b6.block gu (Array.getElem?_eq_some_iff.1 pu).1).trans pu
  replace bt := below_then bt b6
  clear c0 c1 c2 c3 d0 d1
  have c0 : w6.cell? ⟨g, 0, none⟩ = some (.slice la n lc) := cell_of_row _ _ 0 _ _ _ pt
  have c1 : w6.cell? ⟨g, 1, none⟩ = some (.slice na nn nc) := cell_of_row _ _ 1 _ _ _ pt
  have c2 : w6.cell? ⟨g, 2, none⟩ = some (.slice ia il ic) := cell_of_row _ _ 2 _ _ _ pt
  have c3 : w6.cell? ⟨g, 3, none⟩ = some (.slice ca cn cc) := cell_of_row _ _ 3 _ _ _ pt
  have d0 : w6.cell? ⟨gu, 0, none⟩ = some (.slice wa wn wk) := cell_of_row _ _ 0 _ _ _ pu
  have d1 : w6.cell? ⟨gu, 1, none⟩ = some (.int .i64 L) := cell_of_row _ _ 1 _ _ _ pu
  have H4 := Lib.hid hG4
  clear hG4
  cases G4 with
  | false =>
    go_wp2_with fail
    go_ret
    exact ⟨rfl, bt⟩
  | true =>
  by_cases hd : 8 < wn
  · have g1 : decide (8 < wn) = true := by simpa using hd
    have g2 : decide ((8 : Int) < (wn : Int)) = true := by simp; omega
    clear hd
    go_wp2_with fail
    go_ret
    exact ⟨rfl, bt⟩
  have g1 : decide (8 < wn) = false := by simpa using hd
  have g2 : decide ((8 : Int) < (wn : Int)) = false := by simp; omega
  clear hd
  have t1 : FewP 8 n nn il cn ln next acc := H1.out (by first | exact rfl | exact trivial)
  have t2 : ∀ q, q < n → ∀ i, i < ln q → MayP (lit q i) := H3.out (by first | exact rfl | exact trivial)
  have t3 : RightP n ln lit nn next init cn acc := H2.out.1 (by first | exact rfl | exact trivial)
  have hc5 : cn ≤ 5 := by have := HC.out; omega
  obtain ⟨u1, u2, u3, u4, u5, u6, u7⟩ := t1
  obtain rfl : n = nn := t3.2.1.symm
  obtain ⟨K, hK⟩ : ∃ K, K = if cn = 0 then 1 else cn := ⟨_, rfl⟩
  have hK1 : 1 ≤ K ∧ K ≤ 5 := by rw [hK]; split <;> omega
  have hn8 : n ≤ 8 := by omega
  have kO := of_any w6 la na ia ca n lc n nc il ic cn cc ln lit next init acc (h.mono bt) K hK t3 t2 (by omega) (by omega) (by omega) (fun q hq => by have := u5 q (by omega); omega) (fun q hq => by have := u7 q hq; omega)
  obtain ⟨f, hf⟩ : ∃ f, inB cn acc = f := ⟨_, rfl⟩
  obtain ⟨NK, hNK⟩ : ∃ m, n * K = m := ⟨_, rfl⟩
  have hNK1 : NK ≤ 40 := by
    have : n * K ≤ 8 * 5 := Nat.mul_le_mul hn8 hK1.2
    omega
  have hRD0 := right_deg (f := f) (by omega : 0 < K) t3
  unfold OfR at kO
  rw [hNK] at hRD0
  rw [hf, hNK] at kO
  have hRD := Lib.hid hRD0
  have HKO := Lib.hid kO
  have HK := Lib.hid hK
  have HNK := Lib.hid hNK
  have HT2 := Lib.hid t2
  have HNX := Lib.hid (fun q (hq : q < n) => show (next q).length ≤ 1000000 by have := u5 q (by omega); omega)
  have HLN := Lib.hid (fun q (hq : q < n) => show ln q ≤ 1000000 by have := u7 q (by omega); omega)
  have hil : il ≤ 1000000 := by omega
  have m0 : (K : Int) * (n : Int) = (NK : Nat) := by rw [← hNK, Int.mul_comm]; push_cast; rfl
  have q1 : (0 : Int) ≤ ((NK : Nat) : Int) := Int.natCast_nonneg _
  have q2 : ((NK : Nat) : Int) ≤ 1000000000000 := by omega
  have M1 := Lib.hid (show RowKit.wrap64 ((K : Int) * (n : Int)) = ((NK : Nat) : Int) from (congrArg RowKit.wrap64 m0).trans (wrapR_ok _ q1 q2))
  have M2 := Lib.hid (show IntKind.i64.wrap ((K : Int) * (n : Int)) = ((NK : Nat) : Int) from (congrArg IntKind.i64.wrap m0).trans (wrapI_ok _ q1 q2))
  clear kO t2 t3 u1 u2 u3 u4 u5 u6 u7 H1 H2 H3 H4 HC hK hf hNK m0 q1 q2 hRD0
  go_wp2_with fail
  refine (HKO.out).mono ?_
  rintro e w7 ⟨⟨la2, na2, ia2, ca2, lc2, nc2, ic2, cc2, rfl, hA⟩, b7⟩
  replace pt := (b7.block g (Array.getElem?_eq_some_iff.1 pt).1).trans pt
  replace pu := (b7.block gu (Array.getElem?_eq_some_iff.1 pu).1).trans pu
  replace bt := below_then bt b7
  clear c0 c1 c2 c3 d0 d1
  have c0 : w7.cell? ⟨g, 0, none⟩ = some (.slice la n lc) := cell_of_row _ _ 0 _ _ _ pt
  have c1 : w7.cell? ⟨g, 1, none⟩ = some (.slice na n nc) := cell_of_row _ _ 1 _ _ _ pt
  have c2 : w7.cell? ⟨g, 2, none⟩ = some (.slice ia il ic) := cell_of_row _ _ 2 _ _ _ pt
  have c3 : w7.cell? ⟨g, 3, none⟩ = some (.slice ca cn cc) := cell_of_row _ _ 3 _ _ _ pt
  have d0 : w7.cell? ⟨gu, 0, none⟩ = some (.slice wa wn wk) := cell_of_row _ _ 0 _ _ _ pu
  have d1 : w7.cell? ⟨gu, 1, none⟩ = some (.int .i64 L) := cell_of_row _ _ 1 _ _ _ pu
  have bA : Below w7.heap.size w7 (w7.alloc (.cells #[.slice la2 NK lc2, .slice na2 NK nc2, .slice ia2 il ic2, .slice ca2 1 cc2] 26)) := (Below.refl _ _).alloc (Nat.le_refl _) _
  have pB := heap_alloc_new w7 (.cells #[.slice la2 NK lc2, .slice na2 NK nc2, .slice ia2 il ic2, .slice ca2 1 cc2] 26)
  have ptA := (bA.block g (Array.getElem?_eq_some_iff.1 pt).1).trans pt
  have puA := (bA.block gu (Array.getElem?_eq_some_iff.1 pu).1).trans pu
  have btA := below_then bt bA
  have hAA := hA.mono bA
  have HAA := Lib.hid hAA
  clear c0 c1 c2 c3 d0 d1 hA hAA f1 f2 g1 g2
  go_upto_region 5 with fail
  obtain ⟨W3, hW⟩ : ∃ W, w7.alloc (.cells #[.slice la2 NK lc2, .slice na2 NK nc2, .slice ia2 il ic2, .slice ca2 1 cc2] 26) = W := ⟨_, rfl⟩
  rw [hW] at pB ptA puA btA HAA ⊢
  obtain ⟨gB, hg⟩ : ∃ g, w7.heap.size = g := ⟨_, rfl⟩
  rw [hg] at pB ⊢
  clear hW hg bA pt pu bt b2 b3 b4 b5 b6 b7
  have p0 : W3.cell? ⟨gB, 0, none⟩ = some (.slice la2 NK lc2) := cell_of_row _ _ 0 _ _ _ pB
  have p1 : W3.cell? ⟨gB, 1, none⟩ = some (.slice na2 NK nc2) := cell_of_row _ _ 1 _ _ _ pB
  have p2 : W3.cell? ⟨gB, 2, none⟩ = some (.slice ia2 il ic2) := cell_of_row _ _ 2 _ _ _ pB
  have p3 : W3.cell? ⟨gB, 3, none⟩ = some (.slice ca2 1 cc2) := cell_of_row _ _ 3 _ _ _ pB
  go_wp2_with fail
  refine (of_twice W3 la2 na2 ia2 ca2 NK lc2 nc2 il ic2 cc2 n K f ln lit next init (by omega) HNK.out HAA.out hRD.out HT2.out (by omega) hil HNX.out HLN.out).mono ?_
  rintro e w8 ⟨⟨la3, na3, ia3, ca3, lc3, nc3, ic3, cc3, rfl, hA⟩, b8⟩
  have bA : Below w8.heap.size w8 (w8.alloc (.cells #[.slice la3 NK lc3, .slice na3 NK nc3, .slice ia3 il ic3, .slice ca3 1 cc3] 26)) := (Below.refl _ _).alloc (Nat.le_refl _) _
  have pC := heap_alloc_new w8 (.cells #[.slice la3 NK lc3, .slice na3 NK nc3, .slice ia3 il ic3, .slice ca3 1 cc3] 26)
  have b9 := below_then b8 bA
  replace ptA := (b9.block g (Array.getElem?_eq_some_iff.1 ptA).1).trans ptA
  replace pB := (b9.block gB (Array.getElem?_eq_some_iff.1 pB).1).trans pB
  replace btA := below_then btA b9
  have HBB := Lib.hid (HAA.out.mono b9)
  have HCC := Lib.hid (hA.mono bA)
  clear p0 p1 p2 p3 hA HAA puA
  go_upto_region 6 with fail
  obtain ⟨W5, hW⟩ : ∃ W, w8.alloc (.cells #[.slice la3 NK lc3, .slice na3 NK nc3, .slice ia3 il ic3, .slice ca3 1 cc3] 26) = W := ⟨_, rfl⟩
  rw [hW] at pB pC ptA btA HBB HCC ⊢
  obtain ⟨gC, hg⟩ : ∃ g, w8.heap.size = g := ⟨_, rfl⟩
  rw [hg] at pC ⊢
  clear hW hg bA b8 b9
  have p0 : W5.cell? ⟨gB, 0, none⟩ = some (.slice la2 NK lc2) := cell_of_row _ _ 0 _ _ _ pB
  have p1 : W5.cell? ⟨gB, 1, none⟩ = some (.slice na2 NK nc2) := cell_of_row _ _ 1 _ _ _ pB
  have p2 : W5.cell? ⟨gB, 2, none⟩ = some (.slice ia2 il ic2) := cell_of_row _ _ 2 _ _ _ pB
  have p3 : W5.cell? ⟨gB, 3, none⟩ = some (.slice ca2 1 cc2) := cell_of_row _ _ 3 _ _ _ pB
  have r0 : W5.cell? ⟨gC, 0, none⟩ = some (.slice la3 NK lc3) := cell_of_row _ _ 0 _ _ _ pC
  have r1 : W5.cell? ⟨gC, 1, none⟩ = some (.slice na3 NK nc3) := cell_of_row _ _ 1 _ _ _ pC
  have r2 : W5.cell? ⟨gC, 2, none⟩ = some (.slice ia3 il ic3) := cell_of_row _ _ 2 _ _ _ pC
  have r3 : W5.cell? ⟨gC, 3, none⟩ = some (.slice ca3 1 cc3) := cell_of_row _ _ 3 _ _ _ pC
  go_wp2_with fail
  refine (same_any18 W5 la2 na2 ia2 ca2 la3 na3 ia3 ca3 NK lc2 NK nc2 il ic2 1 cc2 lc3 nc3 ic3 cc3 _ _ _ _ _ HBB.out HCC.out).mono ?_
  rintro e w9 ⟨rfl, b9⟩
  have pt := (b9.block g (Array.getElem?_eq_some_iff.1 ptA).1).trans ptA
  replace pB := (b9.block gB (Array.getElem?_eq_some_iff.1 pB).1).trans pB
  replace pC := (b9.block gC (Array.getElem?_eq_some_iff.1 pC).1).trans pC
  replace btA := below_then btA b9
  have HBD := Lib.hid (HBB.out.mono b9)
  have HCD := Lib.hid (HCC.out.mono b9)
  clear p0 p1 p2 p3 r0 r1 r2 r3 ptA b9 HBB HCC
  have r0 : w9.cell? ⟨gC, 0, none⟩ = some (.slice la3 NK lc3) := cell_of_row _ _ 0 _ _ _ pC
  have r1 : w9.cell? ⟨gC, 1, none⟩ = some (.slice na3 NK nc3) := cell_of_row _ _ 1 _ _ _ pC
  have r2 : w9.cell? ⟨gC, 2, none⟩ = some (.slice ia3 il ic3) := cell_of_row _ _ 2 _ _ _ pC
  have r3 : w9.cell? ⟨gC, 3, none⟩ = some (.slice ca3 1 cc3) := cell_of_row _ _ 3 _ _ _ pC
  go_wp2_with fail
  refine (right_any18 w9 la3 na3 ia3 ca3 NK lc3 NK nc3 il ic3 1 cc3 _ _ _ _ _ HCD.out).mono ?_
  rintro e wa0 ⟨⟨G5, rfl, hG5⟩, b9⟩
  obtain rfl : G5 = true := hG5.2 hRD.out
  replace pt := (b9.block g (Array.getElem?_eq_some_iff.1 pt).1).trans pt
  replace pB := (b9.block gB (Array.getElem?_eq_some_iff.1 pB).1).trans pB
  have bt := below_then btA b9
  have HB := Lib.hid (HBD.out.mono b9)
  clear r0 r1 r2 r3 pC HCD HBD b9 hG5 btA hRD HKO HT2 HNX HLN
  have c0 : wa0.cell? ⟨g, 0, none⟩ = some (.slice la n lc) := cell_of_row _ _ 0 _ _ _ pt
  have c1 : wa0.cell? ⟨g, 1, none⟩ = some (.slice na n nc) := cell_of_row _ _ 1 _ _ _ pt
  have c2 : wa0.cell? ⟨g, 2, none⟩ = some (.slice ia il ic) := cell_of_row _ _ 2 _ _ _ pt
  have c3 : wa0.cell? ⟨g, 3, none⟩ = some (.slice ca cn cc) := cell_of_row _ _ 3 _ _ _ pt
  have p0 : wa0.cell? ⟨gB, 0, none⟩ = some (.slice la2 NK lc2) := cell_of_row _ _ 0 _ _ _ pB
  have p1 : wa0.cell? ⟨gB, 1, none⟩ = some (.slice na2 NK nc2) := cell_of_row _ _ 1 _ _ _ pB
  have p2 : wa0.cell? ⟨gB, 2, none⟩ = some (.slice ia2 il ic2) := cell_of_row _ _ 2 _ _ _ pB
  have p3 : wa0.cell? ⟨gB, 3, none⟩ = some (.slice ca2 1 cc2) := cell_of_row _ _ 3 _ _ _ pB
  by_cases hc0 : cn = 0
  · have z0 : decide (cn = 0) = true := by simpa using hc0
    have z1 : ((cn : Int) == 0) = true := by rw [hc0]; rfl
    have hK0 := HK.out
    rw [if_pos hc0] at hK0
    subst hK0
    obtain rfl : n = NK := by have := HNK.out; omega
    have m1 := M1.out
    have m2 := M2.out
    rw [Int.natCast_one, Int.one_mul] at m1 m2
    have e1 : ((n : Int) != (n : Int)) = false := by simp
    have e2 : ((il : Int) != (il : Int)) = false := by simp
    clear hc0 M1 M2 HK HNK
    go_wp2_with fail
    refine (rows_same wa0 na2 na n nc2 nc _ next HB.out.next (h.mono bt).next (by omega) (fun j _ => next_one _ _ _)).mono ?_
    rintro e wb0 ⟨rfl, b9⟩
    replace pt := (b9.block g (Array.getElem?_eq_some_iff.1 pt).1).trans pt
    replace pB := (b9.block gB (Array.getElem?_eq_some_iff.1 pB).1).trans pB
    have kk := vec_any wb0 ia2 il ic2 ia il ic _ init (HB.out.mono b9).init ((h.mono bt).mono b9).init
    rw [decide_eq_true (nums_one _)] at kk
    replace bt := below_then bt b9
    clear c0 c1 c2 c3 p0 p1 p2 p3 HB
    have c0 : wb0.cell? ⟨g, 0, none⟩ = some (.slice la n lc) := cell_of_row _ _ 0 _ _ _ pt
    have c1 : wb0.cell? ⟨g, 1, none⟩ = some (.slice na n nc) := cell_of_row _ _ 1 _ _ _ pt
    have c2 : wb0.cell? ⟨g, 2, none⟩ = some (.slice ia il ic) := cell_of_row _ _ 2 _ _ _ pt
    have c3 : wb0.cell? ⟨g, 3, none⟩ = some (.slice ca cn cc) := cell_of_row _ _ 3 _ _ _ pt
    have p0 : wb0.cell? ⟨gB, 0, none⟩ = some (.slice la2 n lc2) := cell_of_row _ _ 0 _ _ _ pB
    have p1 : wb0.cell? ⟨gB, 1, none⟩ = some (.slice na2 n nc2) := cell_of_row _ _ 1 _ _ _ pB
    have p2 : wb0.cell? ⟨gB, 2, none⟩ = some (.slice ia2 il ic2) := cell_of_row _ _ 2 _ _ _ pB
    have p3 : wb0.cell? ⟨gB, 3, none⟩ = some (.slice ca2 1 cc2) := cell_of_row _ _ 3 _ _ _ pB
    have HKK := Lib.hid kk
    clear kk
    go_wp2_with fail
    refine (HKK.out).mono ?_
    rintro e wc0 ⟨rfl, b10⟩
    go_wp2_with fail
    go_ret
    exact ⟨rfl, below_then bt b10⟩
  · have z0 : decide (cn = 0) = false := by simpa using hc0
    have z1 : ((cn : Int) == 0) = false := by simp; omega
    have hK0 := HK.out
    rw [if_neg hc0] at hK0
    subst hK0
    by_cases hc1 : 1 < K
    · have z2 : decide (1 < K) = true := by simpa using hc1
      have z3 : decide ((1 : Int) < (K : Int)) = true := by simp; omega
      have m1 := M1.out
      have m2 := M2.out
      have e1 : ((NK : Int) != (NK : Int)) = false := by simp
      have e2 : ((il : Int) != (il : Int)) = false := by simp
      clear hc0 hc1 M1 M2 HK HNK
      go_wp2_with fail
      go_ret
      exact ⟨rfl, bt⟩
    · obtain rfl : K = 1 := by omega
      obtain rfl : n = NK := by have := HNK.out; omega
      have m1 := M1.out
      have m2 := M2.out
      rw [Int.natCast_one, Int.one_mul] at m1 m2
      have e1 : ((n : Int) != (n : Int)) = false := by simp
      have e2 : ((il : Int) != (il : Int)) = false := by simp
      clear z0 z1 hc0 hc1 M1 M2 HK HNK
      go_wp2_with fail
      refine (rows_same wa0 na2 na n nc2 nc _ next HB.out.next (h.mono bt).next (by omega) (fun j _ => next_one _ _ _)).mono ?_
      rintro e wb0 ⟨rfl, b9⟩
      replace pt := (b9.block g (Array.getElem?_eq_some_iff.1 pt).1).trans pt
      replace pB := (b9.block gB (Array.getElem?_eq_some_iff.1 pB).1).trans pB
      have kk := vec_any wb0 ia2 il ic2 ia il ic _ init (HB.out.mono b9).init ((h.mono bt).mono b9).init
      rw [decide_eq_true (nums_one _)] at kk
      replace bt := below_then bt b9
      clear c0 c1 c2 c3 p0 p1 p2 p3 HB
      have c0 : wb0.cell? ⟨g, 0, none⟩ = some (.slice la n lc) := cell_of_row _ _ 0 _ _ _ pt
      have c1 : wb0.cell? ⟨g, 1, none⟩ = some (.slice na n nc) := cell_of_row _ _ 1 _ _ _ pt
      have c2 : wb0.cell? ⟨g, 2, none⟩ = some (.slice ia il ic) := cell_of_row _ _ 2 _ _ _ pt
      have c3 : wb0.cell? ⟨g, 3, none⟩ = some (.slice ca 1 cc) := cell_of_row _ _ 3 _ _ _ pt
      have p0 : wb0.cell? ⟨gB, 0, none⟩ = some (.slice la2 n lc2) := cell_of_row _ _ 0 _ _ _ pB
      have p1 : wb0.cell? ⟨gB, 1, none⟩ = some (.slice na2 n nc2) := cell_of_row _ _ 1 _ _ _ pB
      have p2 : wb0.cell? ⟨gB, 2, none⟩ = some (.slice ia2 il ic2) := cell_of_row _ _ 2 _ _ _ pB
      have p3 : wb0.cell? ⟨gB, 3, none⟩ = some (.slice ca2 1 cc2) := cell_of_row _ _ 3 _ _ _ pB
      have HKK := Lib.hid kk
      clear kk
      go_wp2_with fail
      refine (HKK.out).mono ?_
      rintro e wc0 ⟨rfl, b10⟩
      go_wp2_with fail
      go_ret
      exact ⟨rfl, below_then bt b10⟩
end Go.Proofs.Ytpabnpgbclfcfaa
