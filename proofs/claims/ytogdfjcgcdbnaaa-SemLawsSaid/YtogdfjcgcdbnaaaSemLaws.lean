/- SemLaws returns true (by gen17m.py). -/
import Derived.Test.YtogdfjcgcdbnaaaSemL
namespace Go.Proofs.Ytogdfjcgcdbnaaa
open Go.RowKit
set_option linter.unusedVariables false
set_option linter.unusedSimpArgs false
theorem hT_b (wn l : Nat) (row : Nat → List Int) (s t : T) (i : Nat) : hT wn l row (T.bin 23 s t) i = untU wn l (hT wn l row s) (hT wn l row t) i ∧ hT wn l row (T.bin 24 s t) i = relU wn l (hT wn l row s) (hT wn l row t) i := ⟨hT_23 _ _ _ _ _ _ _ _, hT_24 _ _ _ _ _ _ _ _⟩
theorem hT_u (wn l : Nat) (row : Nat → List Int) (t : T) (i : Nat) : hT wn l row (T.un 15 t) i = (!hT wn l row t i) ∧ hT wn l row (T.un 21 t) i = untU wn l (fun _ => true) (hT wn l row t) i ∧ hT wn l row (T.un 22 t) i = relU wn l (fun _ => false) (hT wn l row t) i := ⟨hT_15 _ _ _ _ _ _ _ _, hT_21 _ _ _ _ _ _ _ _, hT_22 _ _ _ _ _ _ _ _⟩
theorem hT_yes (wn l : Nat) (row : Nat → List Int) (i : Nat) : hT wn l row (T.leaf 13 0) i = true := by
  show (if (13 : Int) < 15 then decide (evT (row i) (T.leaf 13 0) = 1) else _) = true
  rw [if_pos (by decide)]
  rfl
theorem fun_un15 (wn l : Nat) (row : Nat → List Int) (t : T) : hT wn l row (T.un 15 t) = fun i => !hT wn l row t i := funext fun i => (hT_u wn l row t i).1
theorem all_at (t : T) (w : World) (v : Value) (wa : Option Addr) (wn wc l : Nat) (row : Nat → List Int) (h : TreeAt w t v) (hr : WordAt w wa wn row) (hf : FmP t) (hwn : wn ≤ 1000000) (hl : l < wn) :
    Calls Try.prog 11 #[v, .agg #[.slice wa wn wc, .int .i64 (l : Nat)]] w fun e w' => BoolsOut w wn (hT wn l row t) e w' ∧ Below w.heap.size w w' := all_any t w v wa wn wc l row h hr hf hwn hl
/-- What holds of the nine rows at each place. -/
structure LawsAt (wn l : Nat) (row : Nat → List Int) (s t : T) (i j : Nat) : Prop where
  u : hT wn l row (T.bin 23 s t) i = (hT wn l row t i || (hT wn l row s i && hT wn l row (T.bin 23 s t) j))
  r : hT wn l row (T.bin 24 s t) i = (hT wn l row t i && (hT wn l row s i || hT wn l row (T.bin 24 s t) j))
  n : hT wn l row (T.un 15 (T.bin 23 (T.un 15 s) (T.un 15 t))) i = hT wn l row (T.bin 24 s t) i
  g : hT wn l row (T.un 15 (T.un 22 (T.un 15 s))) i = hT wn l row (T.un 21 s) i
  t' : hT wn l row (T.bin 23 (T.leaf 13 0) s) i = hT wn l row (T.un 21 s) i
  f : hT wn l row (T.un 21 s) i = (hT wn l row s i || hT wn l row (T.un 21 s) j)
  z : hT wn l row (T.un 15 s) i = !hT wn l row s i
theorem laws_at (wn l : Nat) (row : Nat → List Int) (s t : T) (i : Nat) : LawsAt wn l row s t i (nextW wn l i) := by
  refine ⟨?_, ?_, ?_, ?_, ?_, ?_, ?_⟩
  · rw [(hT_b ..).1, (hT_b ..).1, untU_fix]
  · rw [(hT_b ..).2, (hT_b ..).2, relU_fix]
  · rw [(hT_u ..).1, (hT_b ..).1, (hT_b ..).2, fun_un15, fun_un15]
    rfl
  · rw [(hT_u ..).1, (hT_u ..).2.2, (hT_u ..).2.1, fun_un15]
    unfold relU
    rw [Bool.not_not]
    congr 1
    try (funext i; simp)
  · rw [(hT_b ..).1, (hT_u ..).2.1, show hT wn l row (T.leaf 13 0) = fun _ => true from funext fun i => hT_yes ..]
  · rw [(hT_u ..).2.1, (hT_u ..).2.1, untU_fix]
    simp
  · exact (hT_u ..).1
set_option maxRecDepth 100000 in
set_option maxHeartbeats 8000000 in
theorem semlaws_any (w : World) (ta tb : T) (va vb : Value) (wa : Option Addr) (wn wk : Nat) (L : Int) (row : Nat → List Int) (hta : TreeAt w ta va) (htb : TreeAt w tb vb) (hr : WordAt w wa wn row) (hnb : wn ≤ 9223372036854775807) :
    Calls Try.prog 4 #[va, vb, .agg #[.slice wa wn wk, .int .i64 L]] w fun e w' => e = .returned (.bool true) ∧ Below w.heap.size w w' := by
  obtain ⟨oa, na, qa, aa, la, ca, rfl⟩ := hta.shape
  obtain ⟨ob, nb, qb, ab, lb, cb, rfl⟩ := htb.shape
  obtain ⟨h1, h2, bt⟩ := heap3 w #[.int .i64 oa, .int .i64 na, .int .i64 qa, .slice aa la ca] #[.int .i64 ob, .int .i64 nb, .int .i64 qb, .slice ab lb cb] #[.slice wa wn wk, .int .i64 L] 24 24 27
  have h0 : (((w.alloc (.cells #[.int .i64 oa, .int .i64 na, .int .i64 qa, .slice aa la ca] 24)).alloc (.cells #[.int .i64 ob, .int .i64 nb, .int .i64 qb, .slice ab lb cb] 24)).alloc (.cells #[.slice wa wn wk, .int .i64 L] 27)).heap[w.heap.size]? = some (.cells #[.int .i64 oa, .int .i64 na, .int .i64 qa, .slice aa la ca] 24 (0, 0)) := (Below.heap_alloc _ _ _ (by simp <;> omega)).trans ((Below.heap_alloc _ _ _ (by simp)).trans (heap_alloc_new _ _))
  go_enter Try.func4, Try.ntmps4
  go_upto_region 1 with fail
  obtain ⟨v, hv⟩ : ∃ v, (((w.alloc (.cells #[.int .i64 oa, .int .i64 na, .int .i64 qa, .slice aa la ca] 24)).alloc (.cells #[.int .i64 ob, .int .i64 nb, .int .i64 qb, .slice ab lb cb] 24)).alloc (.cells #[.slice wa wn wk, .int .i64 L] 27)) = v := ⟨_, rfl⟩
  rw [hv] at h0 h1 h2 bt ⊢
  obtain ⟨gw, hgw⟩ : ∃ g, w.heap.size + 1 + 1 = g := ⟨_, rfl⟩
  rw [hgw] at h2 ⊢
  obtain ⟨gb, hgb⟩ : ∃ g, w.heap.size + 1 = g := ⟨_, rfl⟩
  rw [hgb] at h1 ⊢
  obtain ⟨ga, hga⟩ : ∃ g, w.heap.size = g := ⟨_, rfl⟩
  rw [hga] at h0 ⊢
  clear hgw hgb hga hv
  have pa := h0
  have pb := h1
  have pw := h2
  clear h0 h1 h2
  have ca0 : v.cell? ⟨ga, 0, none⟩ = some (.int .i64 oa) := cell_of_row _ _ 0 _ _ _ pa
  have ca1 : v.cell? ⟨ga, 1, none⟩ = some (.int .i64 na) := cell_of_row _ _ 1 _ _ _ pa
  have ca2 : v.cell? ⟨ga, 2, none⟩ = some (.int .i64 qa) := cell_of_row _ _ 2 _ _ _ pa
  have ca3 : v.cell? ⟨ga, 3, none⟩ = some (.slice aa la ca) := cell_of_row _ _ 3 _ _ _ pa
  have cb0 : v.cell? ⟨gb, 0, none⟩ = some (.int .i64 ob) := cell_of_row _ _ 0 _ _ _ pb
  have cb1 : v.cell? ⟨gb, 1, none⟩ = some (.int .i64 nb) := cell_of_row _ _ 1 _ _ _ pb
  have cb2 : v.cell? ⟨gb, 2, none⟩ = some (.int .i64 qb) := cell_of_row _ _ 2 _ _ _ pb
  have cb3 : v.cell? ⟨gb, 3, none⟩ = some (.slice ab lb cb) := cell_of_row _ _ 3 _ _ _ pb
  have cw0 : v.cell? ⟨gw, 0, none⟩ = some (.slice wa wn wk) := cell_of_row _ _ 0 _ _ _ pw
  have cw1 : v.cell? ⟨gw, 1, none⟩ = some (.int .i64 L) := cell_of_row _ _ 1 _ _ _ pw
  go_wp2_with fail
  refine (shown_any _).mono ?_
  rintro e w1 ⟨rfl, b1⟩
  clear ca0 ca1 ca2 ca3 cb0 cb1 cb2 cb3 cw0 cw1
  replace pa := (b1.block ga (Array.getElem?_eq_some_iff.1 pa).1).trans pa
  replace pb := (b1.block gb (Array.getElem?_eq_some_iff.1 pb).1).trans pb
  replace pw := (b1.block gw (Array.getElem?_eq_some_iff.1 pw).1).trans pw
  replace bt := below_then bt b1
  have ca0 : w1.cell? ⟨ga, 0, none⟩ = some (.int .i64 oa) := cell_of_row _ _ 0 _ _ _ pa
  have ca1 : w1.cell? ⟨ga, 1, none⟩ = some (.int .i64 na) := cell_of_row _ _ 1 _ _ _ pa
  have ca2 : w1.cell? ⟨ga, 2, none⟩ = some (.int .i64 qa) := cell_of_row _ _ 2 _ _ _ pa
  have ca3 : w1.cell? ⟨ga, 3, none⟩ = some (.slice aa la ca) := cell_of_row _ _ 3 _ _ _ pa
  have cb0 : w1.cell? ⟨gb, 0, none⟩ = some (.int .i64 ob) := cell_of_row _ _ 0 _ _ _ pb
  have cb1 : w1.cell? ⟨gb, 1, none⟩ = some (.int .i64 nb) := cell_of_row _ _ 1 _ _ _ pb
  have cb2 : w1.cell? ⟨gb, 2, none⟩ = some (.int .i64 qb) := cell_of_row _ _ 2 _ _ _ pb
  have cb3 : w1.cell? ⟨gb, 3, none⟩ = some (.slice ab lb cb) := cell_of_row _ _ 3 _ _ _ pb
  have cw0 : w1.cell? ⟨gw, 0, none⟩ = some (.slice wa wn wk) := cell_of_row _ _ 0 _ _ _ pw
  have cw1 : w1.cell? ⟨gw, 1, none⟩ = some (.int .i64 L) := cell_of_row _ _ 1 _ _ _ pw
  by_cases h12 : 12 < wn
  · have f1 : decide (12 < wn) = true := by simpa using h12
    have f2 : decide ((12 : Int) < (wn : Int)) = true := by simp; omega
    go_wp2_with fail
    go_ret
    exact ⟨rfl, bt⟩
  have f1 : decide (12 < wn) = false := by simpa using h12
  have f2 : decide ((12 : Int) < (wn : Int)) = false := by simp; omega
  go_wp2_with fail
  refine (fewW_any _ wa wn wk L row (hr.mono bt) (by omega)).mono ?_
  rintro e w2 ⟨⟨FW, rfl⟩, b2⟩
  clear ca0 ca1 ca2 ca3 cb0 cb1 cb2 cb3 cw0 cw1
  replace pa := (b2.block ga (Array.getElem?_eq_some_iff.1 pa).1).trans pa
  replace pb := (b2.block gb (Array.getElem?_eq_some_iff.1 pb).1).trans pb
  replace pw := (b2.block gw (Array.getElem?_eq_some_iff.1 pw).1).trans pw
  replace bt := below_then bt b2
  have ca0 : w2.cell? ⟨ga, 0, none⟩ = some (.int .i64 oa) := cell_of_row _ _ 0 _ _ _ pa
  have ca1 : w2.cell? ⟨ga, 1, none⟩ = some (.int .i64 na) := cell_of_row _ _ 1 _ _ _ pa
  have ca2 : w2.cell? ⟨ga, 2, none⟩ = some (.int .i64 qa) := cell_of_row _ _ 2 _ _ _ pa
  have ca3 : w2.cell? ⟨ga, 3, none⟩ = some (.slice aa la ca) := cell_of_row _ _ 3 _ _ _ pa
  have cb0 : w2.cell? ⟨gb, 0, none⟩ = some (.int .i64 ob) := cell_of_row _ _ 0 _ _ _ pb
  have cb1 : w2.cell? ⟨gb, 1, none⟩ = some (.int .i64 nb) := cell_of_row _ _ 1 _ _ _ pb
  have cb2 : w2.cell? ⟨gb, 2, none⟩ = some (.int .i64 qb) := cell_of_row _ _ 2 _ _ _ pb
  have cb3 : w2.cell? ⟨gb, 3, none⟩ = some (.slice ab lb cb) := cell_of_row _ _ 3 _ _ _ pb
  have cw0 : w2.cell? ⟨gw, 0, none⟩ = some (.slice wa wn wk) := cell_of_row _ _ 0 _ _ _ pw
  have cw1 : w2.cell? ⟨gw, 1, none⟩ = some (.int .i64 L) := cell_of_row _ _ 1 _ _ _ pw
  cases FW with
  | false =>
    go_wp2_with fail
    go_ret
    exact ⟨rfl, bt⟩
  | true =>
  go_wp2_with fail
  refine (refRight_any _ wa wn wk L hnb).mono ?_
  rintro e w3 ⟨rfl, b3⟩
  clear ca0 ca1 ca2 ca3 cb0 cb1 cb2 cb3 cw0 cw1
  replace pa := (b3.block ga (Array.getElem?_eq_some_iff.1 pa).1).trans pa
  replace pb := (b3.block gb (Array.getElem?_eq_some_iff.1 pb).1).trans pb
  replace pw := (b3.block gw (Array.getElem?_eq_some_iff.1 pw).1).trans pw
  replace bt := below_then bt b3
  have ca0 : w3.cell? ⟨ga, 0, none⟩ = some (.int .i64 oa) := cell_of_row _ _ 0 _ _ _ pa
  have ca1 : w3.cell? ⟨ga, 1, none⟩ = some (.int .i64 na) := cell_of_row _ _ 1 _ _ _ pa
  have ca2 : w3.cell? ⟨ga, 2, none⟩ = some (.int .i64 qa) := cell_of_row _ _ 2 _ _ _ pa
  have ca3 : w3.cell? ⟨ga, 3, none⟩ = some (.slice aa la ca) := cell_of_row _ _ 3 _ _ _ pa
  have cb0 : w3.cell? ⟨gb, 0, none⟩ = some (.int .i64 ob) := cell_of_row _ _ 0 _ _ _ pb
  have cb1 : w3.cell? ⟨gb, 1, none⟩ = some (.int .i64 nb) := cell_of_row _ _ 1 _ _ _ pb
  have cb2 : w3.cell? ⟨gb, 2, none⟩ = some (.int .i64 qb) := cell_of_row _ _ 2 _ _ _ pb
  have cb3 : w3.cell? ⟨gb, 3, none⟩ = some (.slice ab lb cb) := cell_of_row _ _ 3 _ _ _ pb
  have cw0 : w3.cell? ⟨gw, 0, none⟩ = some (.slice wa wn wk) := cell_of_row _ _ 0 _ _ _ pw
  have cw1 : w3.cell? ⟨gw, 1, none⟩ = some (.int .i64 L) := cell_of_row _ _ 1 _ _ _ pw
  by_cases hR : 1 ≤ wn ∧ 0 ≤ L ∧ L < wn
  case neg =>
    rw [decide_eq_false hR]
    go_wp2_with fail
    go_ret
    exact ⟨rfl, bt⟩
  rw [decide_eq_true hR]
  obtain ⟨hw1, hL0, hLn⟩ := hR
  obtain ⟨l, rfl⟩ : ∃ l : Nat, L = (l : Int) := ⟨L.toNat, by omega⟩
  have hl : l < wn := by omega
  clear hL0 hLn
  go_wp2_with fail
  refine (formula_any _ ta _ 3 (hta.mono bt) (by decide)).mono ?_
  rintro e w4 ⟨⟨BA, rfl, hBA⟩, b4⟩
  clear ca0 ca1 ca2 ca3 cb0 cb1 cb2 cb3 cw0 cw1
  replace pa := (b4.block ga (Array.getElem?_eq_some_iff.1 pa).1).trans pa
  replace pb := (b4.block gb (Array.getElem?_eq_some_iff.1 pb).1).trans pb
  replace pw := (b4.block gw (Array.getElem?_eq_some_iff.1 pw).1).trans pw
  replace bt := below_then bt b4
  have ca0 : w4.cell? ⟨ga, 0, none⟩ = some (.int .i64 oa) := cell_of_row _ _ 0 _ _ _ pa
  have ca1 : w4.cell? ⟨ga, 1, none⟩ = some (.int .i64 na) := cell_of_row _ _ 1 _ _ _ pa
  have ca2 : w4.cell? ⟨ga, 2, none⟩ = some (.int .i64 qa) := cell_of_row _ _ 2 _ _ _ pa
  have ca3 : w4.cell? ⟨ga, 3, none⟩ = some (.slice aa la ca) := cell_of_row _ _ 3 _ _ _ pa
  have cb0 : w4.cell? ⟨gb, 0, none⟩ = some (.int .i64 ob) := cell_of_row _ _ 0 _ _ _ pb
  have cb1 : w4.cell? ⟨gb, 1, none⟩ = some (.int .i64 nb) := cell_of_row _ _ 1 _ _ _ pb
  have cb2 : w4.cell? ⟨gb, 2, none⟩ = some (.int .i64 qb) := cell_of_row _ _ 2 _ _ _ pb
  have cb3 : w4.cell? ⟨gb, 3, none⟩ = some (.slice ab lb cb) := cell_of_row _ _ 3 _ _ _ pb
  have cw0 : w4.cell? ⟨gw, 0, none⟩ = some (.slice wa wn wk) := cell_of_row _ _ 0 _ _ _ pw
  have cw1 : w4.cell? ⟨gw, 1, none⟩ = some (.int .i64 (l : Nat)) := cell_of_row _ _ 1 _ _ _ pw
  cases BA with
  | false =>
    go_wp2_with fail
    go_ret
    exact ⟨rfl, bt⟩
  | true =>
  have HFA := Lib.hid (hBA rfl)
  clear hBA
  go_wp2_with fail
  refine (formula_any _ tb _ 3 (htb.mono bt) (by decide)).mono ?_
  rintro e w5 ⟨⟨BB, rfl, hBB⟩, b5⟩
  clear ca0 ca1 ca2 ca3 cb0 cb1 cb2 cb3 cw0 cw1
  replace pa := (b5.block ga (Array.getElem?_eq_some_iff.1 pa).1).trans pa
  replace pb := (b5.block gb (Array.getElem?_eq_some_iff.1 pb).1).trans pb
  replace pw := (b5.block gw (Array.getElem?_eq_some_iff.1 pw).1).trans pw
  replace bt := below_then bt b5
  have ca0 : w5.cell? ⟨ga, 0, none⟩ = some (.int .i64 oa) := cell_of_row _ _ 0 _ _ _ pa
  have ca1 : w5.cell? ⟨ga, 1, none⟩ = some (.int .i64 na) := cell_of_row _ _ 1 _ _ _ pa
  have ca2 : w5.cell? ⟨ga, 2, none⟩ = some (.int .i64 qa) := cell_of_row _ _ 2 _ _ _ pa
  have ca3 : w5.cell? ⟨ga, 3, none⟩ = some (.slice aa la ca) := cell_of_row _ _ 3 _ _ _ pa
  have cb0 : w5.cell? ⟨gb, 0, none⟩ = some (.int .i64 ob) := cell_of_row _ _ 0 _ _ _ pb
  have cb1 : w5.cell? ⟨gb, 1, none⟩ = some (.int .i64 nb) := cell_of_row _ _ 1 _ _ _ pb
  have cb2 : w5.cell? ⟨gb, 2, none⟩ = some (.int .i64 qb) := cell_of_row _ _ 2 _ _ _ pb
  have cb3 : w5.cell? ⟨gb, 3, none⟩ = some (.slice ab lb cb) := cell_of_row _ _ 3 _ _ _ pb
  have cw0 : w5.cell? ⟨gw, 0, none⟩ = some (.slice wa wn wk) := cell_of_row _ _ 0 _ _ _ pw
  have cw1 : w5.cell? ⟨gw, 1, none⟩ = some (.int .i64 (l : Nat)) := cell_of_row _ _ 1 _ _ _ pw
  cases BB with
  | false =>
    go_wp2_with fail
    go_ret
    exact ⟨rfl, bt⟩
  | true =>
  have HFB := Lib.hid (hBB rfl)
  clear hBB f1 f2
  have hwn : wn ≤ 12 := by omega
  go_wp2_with fail
  refine (all_any ta _ _ wa wn wk l row (hta.mono bt) (hr.mono bt) HFA.out (by omega) hl).mono ?_
  rintro e w6 ⟨⟨gx, rfl, _, rx⟩, b6⟩
  clear ca0 ca1 ca2 ca3 cb0 cb1 cb2 cb3 cw0 cw1
  replace pa := (b6.block ga (Array.getElem?_eq_some_iff.1 pa).1).trans pa
  replace pb := (b6.block gb (Array.getElem?_eq_some_iff.1 pb).1).trans pb
  replace pw := (b6.block gw (Array.getElem?_eq_some_iff.1 pw).1).trans pw
  replace bt := below_then bt b6
  have ca0 : w6.cell? ⟨ga, 0, none⟩ = some (.int .i64 oa) := cell_of_row _ _ 0 _ _ _ pa
  have ca1 : w6.cell? ⟨ga, 1, none⟩ = some (.int .i64 na) := cell_of_row _ _ 1 _ _ _ pa
  have ca2 : w6.cell? ⟨ga, 2, none⟩ = some (.int .i64 qa) := cell_of_row _ _ 2 _ _ _ pa
  have ca3 : w6.cell? ⟨ga, 3, none⟩ = some (.slice aa la ca) := cell_of_row _ _ 3 _ _ _ pa
  have cb0 : w6.cell? ⟨gb, 0, none⟩ = some (.int .i64 ob) := cell_of_row _ _ 0 _ _ _ pb
  have cb1 : w6.cell? ⟨gb, 1, none⟩ = some (.int .i64 nb) := cell_of_row _ _ 1 _ _ _ pb
  have cb2 : w6.cell? ⟨gb, 2, none⟩ = some (.int .i64 qb) := cell_of_row _ _ 2 _ _ _ pb
  have cb3 : w6.cell? ⟨gb, 3, none⟩ = some (.slice ab lb cb) := cell_of_row _ _ 3 _ _ _ pb
  have cw0 : w6.cell? ⟨gw, 0, none⟩ = some (.slice wa wn wk) := cell_of_row _ _ 0 _ _ _ pw
  have cw1 : w6.cell? ⟨gw, 1, none⟩ = some (.int .i64 (l : Nat)) := cell_of_row _ _ 1 _ _ _ pw
  go_wp2_with fail
  refine (all_any tb _ _ wa wn wk l row (htb.mono bt) (hr.mono bt) HFB.out (by omega) hl).mono ?_
  rintro e w7 ⟨⟨gy, rfl, _, ry⟩, b7⟩
  clear ca0 ca1 ca2 ca3 cb0 cb1 cb2 cb3 cw0 cw1
  replace pa := (b7.block ga (Array.getElem?_eq_some_iff.1 pa).1).trans pa
  replace pb := (b7.block gb (Array.getElem?_eq_some_iff.1 pb).1).trans pb
  replace pw := (b7.block gw (Array.getElem?_eq_some_iff.1 pw).1).trans pw
  replace rx := rx.mono b7
  replace bt := below_then bt b7
  have ca0 : w7.cell? ⟨ga, 0, none⟩ = some (.int .i64 oa) := cell_of_row _ _ 0 _ _ _ pa
  have ca1 : w7.cell? ⟨ga, 1, none⟩ = some (.int .i64 na) := cell_of_row _ _ 1 _ _ _ pa
  have ca2 : w7.cell? ⟨ga, 2, none⟩ = some (.int .i64 qa) := cell_of_row _ _ 2 _ _ _ pa
  have ca3 : w7.cell? ⟨ga, 3, none⟩ = some (.slice aa la ca) := cell_of_row _ _ 3 _ _ _ pa
  have cb0 : w7.cell? ⟨gb, 0, none⟩ = some (.int .i64 ob) := cell_of_row _ _ 0 _ _ _ pb
  have cb1 : w7.cell? ⟨gb, 1, none⟩ = some (.int .i64 nb) := cell_of_row _ _ 1 _ _ _ pb
  have cb2 : w7.cell? ⟨gb, 2, none⟩ = some (.int .i64 qb) := cell_of_row _ _ 2 _ _ _ pb
  have cb3 : w7.cell? ⟨gb, 3, none⟩ = some (.slice ab lb cb) := cell_of_row _ _ 3 _ _ _ pb
  have cw0 : w7.cell? ⟨gw, 0, none⟩ = some (.slice wa wn wk) := cell_of_row _ _ 0 _ _ _ pw
  have cw1 : w7.cell? ⟨gw, 1, none⟩ = some (.int .i64 (l : Nat)) := cell_of_row _ _ 1 _ _ _ pw
  go_upto_region 6 with fail
  clear ca0 ca1 ca2 ca3 cb0 cb1 cb2 cb3 cw0 cw1
  have bk : Below w7.heap.size w7 w7.drew := (Below.refl _ _).drew
  have ca0 : w7.drew.cell? ⟨ga, 0, none⟩ = some (.int .i64 oa) := cell_of_row _ _ 0 _ _ _ pa
  have ca1 : w7.drew.cell? ⟨ga, 1, none⟩ = some (.int .i64 na) := cell_of_row _ _ 1 _ _ _ pa
  have ca2 : w7.drew.cell? ⟨ga, 2, none⟩ = some (.int .i64 qa) := cell_of_row _ _ 2 _ _ _ pa
  have ca3 : w7.drew.cell? ⟨ga, 3, none⟩ = some (.slice aa la ca) := cell_of_row _ _ 3 _ _ _ pa
  have cb0 : w7.drew.cell? ⟨gb, 0, none⟩ = some (.int .i64 ob) := cell_of_row _ _ 0 _ _ _ pb
  have cb1 : w7.drew.cell? ⟨gb, 1, none⟩ = some (.int .i64 nb) := cell_of_row _ _ 1 _ _ _ pb
  have cb2 : w7.drew.cell? ⟨gb, 2, none⟩ = some (.int .i64 qb) := cell_of_row _ _ 2 _ _ _ pb
  have cb3 : w7.drew.cell? ⟨gb, 3, none⟩ = some (.slice ab lb cb) := cell_of_row _ _ 3 _ _ _ pb
  have cw0 : w7.drew.cell? ⟨gw, 0, none⟩ = some (.slice wa wn wk) := cell_of_row _ _ 0 _ _ _ pw
  have cw1 : w7.drew.cell? ⟨gw, 1, none⟩ = some (.int .i64 (l : Nat)) := cell_of_row _ _ 1 _ _ _ pw
  have hA := hta.mono (below_then bt bk)
  have hB := htb.mono (below_then bt bk)
  have hW := hr.mono (below_then bt bk)
  go_region_held3 (fun w' => w'.cell? ⟨ga, 0, none⟩ = some (.int .i64 oa) ∧ w'.cell? ⟨ga, 1, none⟩ = some (.int .i64 na) ∧ w'.cell? ⟨ga, 2, none⟩ = some (.int .i64 qa) ∧ w'.cell? ⟨ga, 3, none⟩ = some (.slice aa la ca) ∧ w'.cell? ⟨gb, 0, none⟩ = some (.int .i64 ob) ∧ w'.cell? ⟨gb, 1, none⟩ = some (.int .i64 nb) ∧ w'.cell? ⟨gb, 2, none⟩ = some (.int .i64 qb) ∧ w'.cell? ⟨gb, 3, none⟩ = some (.slice ab lb cb) ∧ w'.cell? ⟨gw, 0, none⟩ = some (.slice wa wn wk) ∧ w'.cell? ⟨gw, 1, none⟩ = some (.int .i64 (l : Nat)))
    (refine ⟨?_, ?_, ?_, ?_, ?_, ?_, ?_, ?_, ?_, ?_⟩ <;> with_reducible assumption)
    (first | (go_at_call 12; ((with_reducible refine (two_any _ 23 ta tb _ _ (by decide) hA hB).mono ?_); rintro e ws ⟨⟨x1, rfl, u1⟩, bz⟩; have zz := cell_next bz ca0; clear ca0; have ca0 := zz; clear zz; have zz := cell_next bz ca1; clear ca1; have ca1 := zz; clear zz; have zz := cell_next bz ca2; clear ca2; have ca2 := zz; clear zz; have zz := cell_next bz ca3; clear ca3; have ca3 := zz; clear zz; have zz := cell_next bz cb0; clear cb0; have cb0 := zz; clear zz; have zz := cell_next bz cb1; clear cb1; have cb1 := zz; clear zz; have zz := cell_next bz cb2; clear cb2; have cb2 := zz; clear zz; have zz := cell_next bz cb3; clear cb3; have cb3 := zz; clear zz; have zz := cell_next bz cw0; clear cw0; have cw0 := zz; clear zz; have zz := cell_next bz cw1; clear cw1; have cw1 := zz; clear zz; have zz := hA.mono bz; clear hA; have hA := zz; clear zz; have zz := hB.mono bz; clear hB; have hB := zz; clear zz; have zz := hW.mono bz; clear hW; have hW := zz; clear zz; have zz := below_then bk bz; clear bk; have bk := zz; clear zz; obtain ⟨i1, i2, i3, i4, i5, i6, rfl⟩ := u1.shape)) | (go_at_call 11; ((with_reducible refine (all_at (T.bin 23 ta tb) _ _ wa wn wk l row u1 hW (HFA.out.two HFB.out (.inr (.inr (.inl rfl)))) (by omega) hl).mono ?_); rintro e ws ⟨⟨gu, rfl, _, ru⟩, bz⟩; have zz := cell_next bz ca0; clear ca0; have ca0 := zz; clear zz; have zz := cell_next bz ca1; clear ca1; have ca1 := zz; clear zz; have zz := cell_next bz ca2; clear ca2; have ca2 := zz; clear zz; have zz := cell_next bz ca3; clear ca3; have ca3 := zz; clear zz; have zz := cell_next bz cb0; clear cb0; have cb0 := zz; clear zz; have zz := cell_next bz cb1; clear cb1; have cb1 := zz; clear zz; have zz := cell_next bz cb2; clear cb2; have cb2 := zz; clear zz; have zz := cell_next bz cb3; clear cb3; have cb3 := zz; clear zz; have zz := cell_next bz cw0; clear cw0; have cw0 := zz; clear zz; have zz := cell_next bz cw1; clear cw1; have cw1 := zz; clear zz; have zz := hA.mono bz; clear hA; have hA := zz; clear zz; have zz := hB.mono bz; clear hB; have hB := zz; clear zz; have zz := hW.mono bz; clear hW; have hW := zz; clear zz; have zz := below_then bk bz; clear bk; have bk := zz; clear zz)))
  replace pa := (bk.block ga (Array.getElem?_eq_some_iff.1 pa).1).trans pa
  replace pb := (bk.block gb (Array.getElem?_eq_some_iff.1 pb).1).trans pb
  replace pw := (bk.block gw (Array.getElem?_eq_some_iff.1 pw).1).trans pw
  replace rx := rx.mono bk
  replace ry := ry.mono bk
  replace bt := below_then bt bk
  clear bk hA hB hW bz u1
  obtain ⟨w16, hws⟩ : ∃ x, ws = x := ⟨_, rfl⟩
  subst hws
  go_upto_region 7 with fail
  clear ca0 ca1 ca2 ca3 cb0 cb1 cb2 cb3 cw0 cw1
  have bk : Below ws.heap.size ws ws.drew := (Below.refl _ _).drew
  have ca0 : ws.drew.cell? ⟨ga, 0, none⟩ = some (.int .i64 oa) := cell_of_row _ _ 0 _ _ _ pa
  have ca1 : ws.drew.cell? ⟨ga, 1, none⟩ = some (.int .i64 na) := cell_of_row _ _ 1 _ _ _ pa
  have ca2 : ws.drew.cell? ⟨ga, 2, none⟩ = some (.int .i64 qa) := cell_of_row _ _ 2 _ _ _ pa
  have ca3 : ws.drew.cell? ⟨ga, 3, none⟩ = some (.slice aa la ca) := cell_of_row _ _ 3 _ _ _ pa
  have cb0 : ws.drew.cell? ⟨gb, 0, none⟩ = some (.int .i64 ob) := cell_of_row _ _ 0 _ _ _ pb
  have cb1 : ws.drew.cell? ⟨gb, 1, none⟩ = some (.int .i64 nb) := cell_of_row _ _ 1 _ _ _ pb
  have cb2 : ws.drew.cell? ⟨gb, 2, none⟩ = some (.int .i64 qb) := cell_of_row _ _ 2 _ _ _ pb
  have cb3 : ws.drew.cell? ⟨gb, 3, none⟩ = some (.slice ab lb cb) := cell_of_row _ _ 3 _ _ _ pb
  have cw0 : ws.drew.cell? ⟨gw, 0, none⟩ = some (.slice wa wn wk) := cell_of_row _ _ 0 _ _ _ pw
  have cw1 : ws.drew.cell? ⟨gw, 1, none⟩ = some (.int .i64 (l : Nat)) := cell_of_row _ _ 1 _ _ _ pw
  have hA := hta.mono (below_then bt bk)
  have hB := htb.mono (below_then bt bk)
  have hW := hr.mono (below_then bt bk)
  go_region_held3 (fun w' => w'.cell? ⟨ga, 0, none⟩ = some (.int .i64 oa) ∧ w'.cell? ⟨ga, 1, none⟩ = some (.int .i64 na) ∧ w'.cell? ⟨ga, 2, none⟩ = some (.int .i64 qa) ∧ w'.cell? ⟨ga, 3, none⟩ = some (.slice aa la ca) ∧ w'.cell? ⟨gb, 0, none⟩ = some (.int .i64 ob) ∧ w'.cell? ⟨gb, 1, none⟩ = some (.int .i64 nb) ∧ w'.cell? ⟨gb, 2, none⟩ = some (.int .i64 qb) ∧ w'.cell? ⟨gb, 3, none⟩ = some (.slice ab lb cb) ∧ w'.cell? ⟨gw, 0, none⟩ = some (.slice wa wn wk) ∧ w'.cell? ⟨gw, 1, none⟩ = some (.int .i64 (l : Nat)))
    (refine ⟨?_, ?_, ?_, ?_, ?_, ?_, ?_, ?_, ?_, ?_⟩ <;> with_reducible assumption)
    (first | (go_at_call 12; ((with_reducible refine (two_any _ 24 ta tb _ _ (by decide) hA hB).mono ?_); rintro e ws ⟨⟨x1, rfl, u1⟩, bz⟩; have zz := cell_next bz ca0; clear ca0; have ca0 := zz; clear zz; have zz := cell_next bz ca1; clear ca1; have ca1 := zz; clear zz; have zz := cell_next bz ca2; clear ca2; have ca2 := zz; clear zz; have zz := cell_next bz ca3; clear ca3; have ca3 := zz; clear zz; have zz := cell_next bz cb0; clear cb0; have cb0 := zz; clear zz; have zz := cell_next bz cb1; clear cb1; have cb1 := zz; clear zz; have zz := cell_next bz cb2; clear cb2; have cb2 := zz; clear zz; have zz := cell_next bz cb3; clear cb3; have cb3 := zz; clear zz; have zz := cell_next bz cw0; clear cw0; have cw0 := zz; clear zz; have zz := cell_next bz cw1; clear cw1; have cw1 := zz; clear zz; have zz := hA.mono bz; clear hA; have hA := zz; clear zz; have zz := hB.mono bz; clear hB; have hB := zz; clear zz; have zz := hW.mono bz; clear hW; have hW := zz; clear zz; have zz := below_then bk bz; clear bk; have bk := zz; clear zz; obtain ⟨i1, i2, i3, i4, i5, i6, rfl⟩ := u1.shape)) | (go_at_call 11; ((with_reducible refine (all_at (T.bin 24 ta tb) _ _ wa wn wk l row u1 hW (HFA.out.two HFB.out (.inr (.inr (.inr rfl)))) (by omega) hl).mono ?_); rintro e ws ⟨⟨gr, rfl, _, rr⟩, bz⟩; have zz := cell_next bz ca0; clear ca0; have ca0 := zz; clear zz; have zz := cell_next bz ca1; clear ca1; have ca1 := zz; clear zz; have zz := cell_next bz ca2; clear ca2; have ca2 := zz; clear zz; have zz := cell_next bz ca3; clear ca3; have ca3 := zz; clear zz; have zz := cell_next bz cb0; clear cb0; have cb0 := zz; clear zz; have zz := cell_next bz cb1; clear cb1; have cb1 := zz; clear zz; have zz := cell_next bz cb2; clear cb2; have cb2 := zz; clear zz; have zz := cell_next bz cb3; clear cb3; have cb3 := zz; clear zz; have zz := cell_next bz cw0; clear cw0; have cw0 := zz; clear zz; have zz := cell_next bz cw1; clear cw1; have cw1 := zz; clear zz; have zz := hA.mono bz; clear hA; have hA := zz; clear zz; have zz := hB.mono bz; clear hB; have hB := zz; clear zz; have zz := hW.mono bz; clear hW; have hW := zz; clear zz; have zz := below_then bk bz; clear bk; have bk := zz; clear zz)))
  replace pa := (bk.block ga (Array.getElem?_eq_some_iff.1 pa).1).trans pa
  replace pb := (bk.block gb (Array.getElem?_eq_some_iff.1 pb).1).trans pb
  replace pw := (bk.block gw (Array.getElem?_eq_some_iff.1 pw).1).trans pw
  replace rx := rx.mono bk
  replace ry := ry.mono bk
  replace ru := ru.mono bk
  replace bt := below_then bt bk
  clear bk hA hB hW bz u1
  obtain ⟨w17, hws⟩ : ∃ x, ws = x := ⟨_, rfl⟩
  subst hws
  go_upto_region 8 with fail
  clear ca0 ca1 ca2 ca3 cb0 cb1 cb2 cb3 cw0 cw1
  have bk : Below ws.heap.size ws ws.drew := (Below.refl _ _).drew
  have ca0 : ws.drew.cell? ⟨ga, 0, none⟩ = some (.int .i64 oa) := cell_of_row _ _ 0 _ _ _ pa
  have ca1 : ws.drew.cell? ⟨ga, 1, none⟩ = some (.int .i64 na) := cell_of_row _ _ 1 _ _ _ pa
  have ca2 : ws.drew.cell? ⟨ga, 2, none⟩ = some (.int .i64 qa) := cell_of_row _ _ 2 _ _ _ pa
  have ca3 : ws.drew.cell? ⟨ga, 3, none⟩ = some (.slice aa la ca) := cell_of_row _ _ 3 _ _ _ pa
  have cb0 : ws.drew.cell? ⟨gb, 0, none⟩ = some (.int .i64 ob) := cell_of_row _ _ 0 _ _ _ pb
  have cb1 : ws.drew.cell? ⟨gb, 1, none⟩ = some (.int .i64 nb) := cell_of_row _ _ 1 _ _ _ pb
  have cb2 : ws.drew.cell? ⟨gb, 2, none⟩ = some (.int .i64 qb) := cell_of_row _ _ 2 _ _ _ pb
  have cb3 : ws.drew.cell? ⟨gb, 3, none⟩ = some (.slice ab lb cb) := cell_of_row _ _ 3 _ _ _ pb
  have cw0 : ws.drew.cell? ⟨gw, 0, none⟩ = some (.slice wa wn wk) := cell_of_row _ _ 0 _ _ _ pw
  have cw1 : ws.drew.cell? ⟨gw, 1, none⟩ = some (.int .i64 (l : Nat)) := cell_of_row _ _ 1 _ _ _ pw
  have hA := hta.mono (below_then bt bk)
  have hB := htb.mono (below_then bt bk)
  have hW := hr.mono (below_then bt bk)
  go_region_held3 (fun w' => w'.cell? ⟨ga, 0, none⟩ = some (.int .i64 oa) ∧ w'.cell? ⟨ga, 1, none⟩ = some (.int .i64 na) ∧ w'.cell? ⟨ga, 2, none⟩ = some (.int .i64 qa) ∧ w'.cell? ⟨ga, 3, none⟩ = some (.slice aa la ca) ∧ w'.cell? ⟨gb, 0, none⟩ = some (.int .i64 ob) ∧ w'.cell? ⟨gb, 1, none⟩ = some (.int .i64 nb) ∧ w'.cell? ⟨gb, 2, none⟩ = some (.int .i64 qb) ∧ w'.cell? ⟨gb, 3, none⟩ = some (.slice ab lb cb) ∧ w'.cell? ⟨gw, 0, none⟩ = some (.slice wa wn wk) ∧ w'.cell? ⟨gw, 1, none⟩ = some (.int .i64 (l : Nat)))
    (refine ⟨?_, ?_, ?_, ?_, ?_, ?_, ?_, ?_, ?_, ?_⟩ <;> with_reducible assumption)
    (first | (go_at_call 13; ((with_reducible refine (not_any _ ta _ hA).mono ?_); rintro e ws ⟨⟨x1, rfl, u1⟩, bz⟩; have zz := cell_next bz ca0; clear ca0; have ca0 := zz; clear zz; have zz := cell_next bz ca1; clear ca1; have ca1 := zz; clear zz; have zz := cell_next bz ca2; clear ca2; have ca2 := zz; clear zz; have zz := cell_next bz ca3; clear ca3; have ca3 := zz; clear zz; have zz := cell_next bz cb0; clear cb0; have cb0 := zz; clear zz; have zz := cell_next bz cb1; clear cb1; have cb1 := zz; clear zz; have zz := cell_next bz cb2; clear cb2; have cb2 := zz; clear zz; have zz := cell_next bz cb3; clear cb3; have cb3 := zz; clear zz; have zz := cell_next bz cw0; clear cw0; have cw0 := zz; clear zz; have zz := cell_next bz cw1; clear cw1; have cw1 := zz; clear zz; have zz := hA.mono bz; clear hA; have hA := zz; clear zz; have zz := hB.mono bz; clear hB; have hB := zz; clear zz; have zz := hW.mono bz; clear hW; have hW := zz; clear zz; have zz := below_then bk bz; clear bk; have bk := zz; clear zz; obtain ⟨i1, i2, i3, i4, i5, i6, rfl⟩ := u1.shape)) | (go_at_call 13; ((with_reducible refine (not_any _ tb _ hB).mono ?_); rintro e ws ⟨⟨x2, rfl, u2⟩, bz⟩; have zz := u1.mono bz; clear u1; have u1 := zz; clear zz; have zz := cell_next bz ca0; clear ca0; have ca0 := zz; clear zz; have zz := cell_next bz ca1; clear ca1; have ca1 := zz; clear zz; have zz := cell_next bz ca2; clear ca2; have ca2 := zz; clear zz; have zz := cell_next bz ca3; clear ca3; have ca3 := zz; clear zz; have zz := cell_next bz cb0; clear cb0; have cb0 := zz; clear zz; have zz := cell_next bz cb1; clear cb1; have cb1 := zz; clear zz; have zz := cell_next bz cb2; clear cb2; have cb2 := zz; clear zz; have zz := cell_next bz cb3; clear cb3; have cb3 := zz; clear zz; have zz := cell_next bz cw0; clear cw0; have cw0 := zz; clear zz; have zz := cell_next bz cw1; clear cw1; have cw1 := zz; clear zz; have zz := hA.mono bz; clear hA; have hA := zz; clear zz; have zz := hB.mono bz; clear hB; have hB := zz; clear zz; have zz := hW.mono bz; clear hW; have hW := zz; clear zz; have zz := below_then bk bz; clear bk; have bk := zz; clear zz; obtain ⟨i1, i2, i3, i4, i5, i6, rfl⟩ := u2.shape)) | (go_at_call 12; ((with_reducible refine (two_any _ 23 (T.un 15 ta) (T.un 15 tb) _ _ (by decide) u1 u2).mono ?_); rintro e ws ⟨⟨x3, rfl, u3⟩, bz⟩; have zz := u1.mono bz; clear u1; have u1 := zz; clear zz; have zz := u2.mono bz; clear u2; have u2 := zz; clear zz; have zz := cell_next bz ca0; clear ca0; have ca0 := zz; clear zz; have zz := cell_next bz ca1; clear ca1; have ca1 := zz; clear zz; have zz := cell_next bz ca2; clear ca2; have ca2 := zz; clear zz; have zz := cell_next bz ca3; clear ca3; have ca3 := zz; clear zz; have zz := cell_next bz cb0; clear cb0; have cb0 := zz; clear zz; have zz := cell_next bz cb1; clear cb1; have cb1 := zz; clear zz; have zz := cell_next bz cb2; clear cb2; have cb2 := zz; clear zz; have zz := cell_next bz cb3; clear cb3; have cb3 := zz; clear zz; have zz := cell_next bz cw0; clear cw0; have cw0 := zz; clear zz; have zz := cell_next bz cw1; clear cw1; have cw1 := zz; clear zz; have zz := hA.mono bz; clear hA; have hA := zz; clear zz; have zz := hB.mono bz; clear hB; have hB := zz; clear zz; have zz := hW.mono bz; clear hW; have hW := zz; clear zz; have zz := below_then bk bz; clear bk; have bk := zz; clear zz; obtain ⟨i1, i2, i3, i4, i5, i6, rfl⟩ := u3.shape)) | (go_at_call 13; ((with_reducible refine (not_any _ (T.bin 23 (T.un 15 ta) (T.un 15 tb)) _ u3).mono ?_); rintro e ws ⟨⟨x4, rfl, u4⟩, bz⟩; have zz := u1.mono bz; clear u1; have u1 := zz; clear zz; have zz := u2.mono bz; clear u2; have u2 := zz; clear zz; have zz := u3.mono bz; clear u3; have u3 := zz; clear zz; have zz := cell_next bz ca0; clear ca0; have ca0 := zz; clear zz; have zz := cell_next bz ca1; clear ca1; have ca1 := zz; clear zz; have zz := cell_next bz ca2; clear ca2; have ca2 := zz; clear zz; have zz := cell_next bz ca3; clear ca3; have ca3 := zz; clear zz; have zz := cell_next bz cb0; clear cb0; have cb0 := zz; clear zz; have zz := cell_next bz cb1; clear cb1; have cb1 := zz; clear zz; have zz := cell_next bz cb2; clear cb2; have cb2 := zz; clear zz; have zz := cell_next bz cb3; clear cb3; have cb3 := zz; clear zz; have zz := cell_next bz cw0; clear cw0; have cw0 := zz; clear zz; have zz := cell_next bz cw1; clear cw1; have cw1 := zz; clear zz; have zz := hA.mono bz; clear hA; have hA := zz; clear zz; have zz := hB.mono bz; clear hB; have hB := zz; clear zz; have zz := hW.mono bz; clear hW; have hW := zz; clear zz; have zz := below_then bk bz; clear bk; have bk := zz; clear zz; obtain ⟨i1, i2, i3, i4, i5, i6, rfl⟩ := u4.shape)) | (go_at_call 11; ((with_reducible refine (all_at (T.un 15 (T.bin 23 (T.un 15 ta) (T.un 15 tb))) _ _ wa wn wk l row u4 hW ((HFA.out.not).two (HFB.out.not) (.inr (.inr (.inl rfl)))).not (by omega) hl).mono ?_); rintro e ws ⟨⟨gn, rfl, _, rn⟩, bz⟩; have zz := cell_next bz ca0; clear ca0; have ca0 := zz; clear zz; have zz := cell_next bz ca1; clear ca1; have ca1 := zz; clear zz; have zz := cell_next bz ca2; clear ca2; have ca2 := zz; clear zz; have zz := cell_next bz ca3; clear ca3; have ca3 := zz; clear zz; have zz := cell_next bz cb0; clear cb0; have cb0 := zz; clear zz; have zz := cell_next bz cb1; clear cb1; have cb1 := zz; clear zz; have zz := cell_next bz cb2; clear cb2; have cb2 := zz; clear zz; have zz := cell_next bz cb3; clear cb3; have cb3 := zz; clear zz; have zz := cell_next bz cw0; clear cw0; have cw0 := zz; clear zz; have zz := cell_next bz cw1; clear cw1; have cw1 := zz; clear zz; have zz := hA.mono bz; clear hA; have hA := zz; clear zz; have zz := hB.mono bz; clear hB; have hB := zz; clear zz; have zz := hW.mono bz; clear hW; have hW := zz; clear zz; have zz := below_then bk bz; clear bk; have bk := zz; clear zz)))
  replace pa := (bk.block ga (Array.getElem?_eq_some_iff.1 pa).1).trans pa
  replace pb := (bk.block gb (Array.getElem?_eq_some_iff.1 pb).1).trans pb
  replace pw := (bk.block gw (Array.getElem?_eq_some_iff.1 pw).1).trans pw
  replace rx := rx.mono bk
  replace ry := ry.mono bk
  replace ru := ru.mono bk
  replace rr := rr.mono bk
  replace bt := below_then bt bk
  clear bk hA hB hW bz u1 u2 u3 u4
  obtain ⟨w18, hws⟩ : ∃ x, ws = x := ⟨_, rfl⟩
  subst hws
  go_upto_region 9 with fail
  clear ca0 ca1 ca2 ca3 cb0 cb1 cb2 cb3 cw0 cw1
  have bk : Below ws.heap.size ws ws.drew := (Below.refl _ _).drew
  have ca0 : ws.drew.cell? ⟨ga, 0, none⟩ = some (.int .i64 oa) := cell_of_row _ _ 0 _ _ _ pa
  have ca1 : ws.drew.cell? ⟨ga, 1, none⟩ = some (.int .i64 na) := cell_of_row _ _ 1 _ _ _ pa
  have ca2 : ws.drew.cell? ⟨ga, 2, none⟩ = some (.int .i64 qa) := cell_of_row _ _ 2 _ _ _ pa
  have ca3 : ws.drew.cell? ⟨ga, 3, none⟩ = some (.slice aa la ca) := cell_of_row _ _ 3 _ _ _ pa
  have cb0 : ws.drew.cell? ⟨gb, 0, none⟩ = some (.int .i64 ob) := cell_of_row _ _ 0 _ _ _ pb
  have cb1 : ws.drew.cell? ⟨gb, 1, none⟩ = some (.int .i64 nb) := cell_of_row _ _ 1 _ _ _ pb
  have cb2 : ws.drew.cell? ⟨gb, 2, none⟩ = some (.int .i64 qb) := cell_of_row _ _ 2 _ _ _ pb
  have cb3 : ws.drew.cell? ⟨gb, 3, none⟩ = some (.slice ab lb cb) := cell_of_row _ _ 3 _ _ _ pb
  have cw0 : ws.drew.cell? ⟨gw, 0, none⟩ = some (.slice wa wn wk) := cell_of_row _ _ 0 _ _ _ pw
  have cw1 : ws.drew.cell? ⟨gw, 1, none⟩ = some (.int .i64 (l : Nat)) := cell_of_row _ _ 1 _ _ _ pw
  have hA := hta.mono (below_then bt bk)
  have hB := htb.mono (below_then bt bk)
  have hW := hr.mono (below_then bt bk)
  go_region_held3 (fun w' => w'.cell? ⟨ga, 0, none⟩ = some (.int .i64 oa) ∧ w'.cell? ⟨ga, 1, none⟩ = some (.int .i64 na) ∧ w'.cell? ⟨ga, 2, none⟩ = some (.int .i64 qa) ∧ w'.cell? ⟨ga, 3, none⟩ = some (.slice aa la ca) ∧ w'.cell? ⟨gb, 0, none⟩ = some (.int .i64 ob) ∧ w'.cell? ⟨gb, 1, none⟩ = some (.int .i64 nb) ∧ w'.cell? ⟨gb, 2, none⟩ = some (.int .i64 qb) ∧ w'.cell? ⟨gb, 3, none⟩ = some (.slice ab lb cb) ∧ w'.cell? ⟨gw, 0, none⟩ = some (.slice wa wn wk) ∧ w'.cell? ⟨gw, 1, none⟩ = some (.int .i64 (l : Nat)))
    (refine ⟨?_, ?_, ?_, ?_, ?_, ?_, ?_, ?_, ?_, ?_⟩ <;> with_reducible assumption)
    (first | (go_at_call 14; ((with_reducible refine (one_any _ 21 ta _ (by decide) hA).mono ?_); rintro e ws ⟨⟨x1, rfl, u1⟩, bz⟩; have zz := cell_next bz ca0; clear ca0; have ca0 := zz; clear zz; have zz := cell_next bz ca1; clear ca1; have ca1 := zz; clear zz; have zz := cell_next bz ca2; clear ca2; have ca2 := zz; clear zz; have zz := cell_next bz ca3; clear ca3; have ca3 := zz; clear zz; have zz := cell_next bz cb0; clear cb0; have cb0 := zz; clear zz; have zz := cell_next bz cb1; clear cb1; have cb1 := zz; clear zz; have zz := cell_next bz cb2; clear cb2; have cb2 := zz; clear zz; have zz := cell_next bz cb3; clear cb3; have cb3 := zz; clear zz; have zz := cell_next bz cw0; clear cw0; have cw0 := zz; clear zz; have zz := cell_next bz cw1; clear cw1; have cw1 := zz; clear zz; have zz := hA.mono bz; clear hA; have hA := zz; clear zz; have zz := hB.mono bz; clear hB; have hB := zz; clear zz; have zz := hW.mono bz; clear hW; have hW := zz; clear zz; have zz := below_then bk bz; clear bk; have bk := zz; clear zz; obtain ⟨i1, i2, i3, i4, i5, i6, rfl⟩ := u1.shape)) | (go_at_call 11; ((with_reducible refine (all_at (T.un 21 ta) _ _ wa wn wk l row u1 hW (HFA.out.time (.inr (.inl rfl))) (by omega) hl).mono ?_); rintro e ws ⟨⟨gf, rfl, _, rf⟩, bz⟩; have zz := cell_next bz ca0; clear ca0; have ca0 := zz; clear zz; have zz := cell_next bz ca1; clear ca1; have ca1 := zz; clear zz; have zz := cell_next bz ca2; clear ca2; have ca2 := zz; clear zz; have zz := cell_next bz ca3; clear ca3; have ca3 := zz; clear zz; have zz := cell_next bz cb0; clear cb0; have cb0 := zz; clear zz; have zz := cell_next bz cb1; clear cb1; have cb1 := zz; clear zz; have zz := cell_next bz cb2; clear cb2; have cb2 := zz; clear zz; have zz := cell_next bz cb3; clear cb3; have cb3 := zz; clear zz; have zz := cell_next bz cw0; clear cw0; have cw0 := zz; clear zz; have zz := cell_next bz cw1; clear cw1; have cw1 := zz; clear zz; have zz := hA.mono bz; clear hA; have hA := zz; clear zz; have zz := hB.mono bz; clear hB; have hB := zz; clear zz; have zz := hW.mono bz; clear hW; have hW := zz; clear zz; have zz := below_then bk bz; clear bk; have bk := zz; clear zz)))
  replace pa := (bk.block ga (Array.getElem?_eq_some_iff.1 pa).1).trans pa
  replace pb := (bk.block gb (Array.getElem?_eq_some_iff.1 pb).1).trans pb
  replace pw := (bk.block gw (Array.getElem?_eq_some_iff.1 pw).1).trans pw
  replace rx := rx.mono bk
  replace ry := ry.mono bk
  replace ru := ru.mono bk
  replace rr := rr.mono bk
  replace rn := rn.mono bk
  replace bt := below_then bt bk
  clear bk hA hB hW bz u1
  obtain ⟨w19, hws⟩ : ∃ x, ws = x := ⟨_, rfl⟩
  subst hws
  go_upto_region 10 with fail
  clear ca0 ca1 ca2 ca3 cb0 cb1 cb2 cb3 cw0 cw1
  have bk : Below ws.heap.size ws ws.drew := (Below.refl _ _).drew
  have ca0 : ws.drew.cell? ⟨ga, 0, none⟩ = some (.int .i64 oa) := cell_of_row _ _ 0 _ _ _ pa
  have ca1 : ws.drew.cell? ⟨ga, 1, none⟩ = some (.int .i64 na) := cell_of_row _ _ 1 _ _ _ pa
  have ca2 : ws.drew.cell? ⟨ga, 2, none⟩ = some (.int .i64 qa) := cell_of_row _ _ 2 _ _ _ pa
  have ca3 : ws.drew.cell? ⟨ga, 3, none⟩ = some (.slice aa la ca) := cell_of_row _ _ 3 _ _ _ pa
  have cb0 : ws.drew.cell? ⟨gb, 0, none⟩ = some (.int .i64 ob) := cell_of_row _ _ 0 _ _ _ pb
  have cb1 : ws.drew.cell? ⟨gb, 1, none⟩ = some (.int .i64 nb) := cell_of_row _ _ 1 _ _ _ pb
  have cb2 : ws.drew.cell? ⟨gb, 2, none⟩ = some (.int .i64 qb) := cell_of_row _ _ 2 _ _ _ pb
  have cb3 : ws.drew.cell? ⟨gb, 3, none⟩ = some (.slice ab lb cb) := cell_of_row _ _ 3 _ _ _ pb
  have cw0 : ws.drew.cell? ⟨gw, 0, none⟩ = some (.slice wa wn wk) := cell_of_row _ _ 0 _ _ _ pw
  have cw1 : ws.drew.cell? ⟨gw, 1, none⟩ = some (.int .i64 (l : Nat)) := cell_of_row _ _ 1 _ _ _ pw
  have hA := hta.mono (below_then bt bk)
  have hB := htb.mono (below_then bt bk)
  have hW := hr.mono (below_then bt bk)
  go_region_held3 (fun w' => w'.cell? ⟨ga, 0, none⟩ = some (.int .i64 oa) ∧ w'.cell? ⟨ga, 1, none⟩ = some (.int .i64 na) ∧ w'.cell? ⟨ga, 2, none⟩ = some (.int .i64 qa) ∧ w'.cell? ⟨ga, 3, none⟩ = some (.slice aa la ca) ∧ w'.cell? ⟨gb, 0, none⟩ = some (.int .i64 ob) ∧ w'.cell? ⟨gb, 1, none⟩ = some (.int .i64 nb) ∧ w'.cell? ⟨gb, 2, none⟩ = some (.int .i64 qb) ∧ w'.cell? ⟨gb, 3, none⟩ = some (.slice ab lb cb) ∧ w'.cell? ⟨gw, 0, none⟩ = some (.slice wa wn wk) ∧ w'.cell? ⟨gw, 1, none⟩ = some (.int .i64 (l : Nat)))
    (refine ⟨?_, ?_, ?_, ?_, ?_, ?_, ?_, ?_, ?_, ?_⟩ <;> with_reducible assumption)
    (first | (go_at_call 13; ((with_reducible refine (not_any _ ta _ hA).mono ?_); rintro e ws ⟨⟨x1, rfl, u1⟩, bz⟩; have zz := cell_next bz ca0; clear ca0; have ca0 := zz; clear zz; have zz := cell_next bz ca1; clear ca1; have ca1 := zz; clear zz; have zz := cell_next bz ca2; clear ca2; have ca2 := zz; clear zz; have zz := cell_next bz ca3; clear ca3; have ca3 := zz; clear zz; have zz := cell_next bz cb0; clear cb0; have cb0 := zz; clear zz; have zz := cell_next bz cb1; clear cb1; have cb1 := zz; clear zz; have zz := cell_next bz cb2; clear cb2; have cb2 := zz; clear zz; have zz := cell_next bz cb3; clear cb3; have cb3 := zz; clear zz; have zz := cell_next bz cw0; clear cw0; have cw0 := zz; clear zz; have zz := cell_next bz cw1; clear cw1; have cw1 := zz; clear zz; have zz := hA.mono bz; clear hA; have hA := zz; clear zz; have zz := hB.mono bz; clear hB; have hB := zz; clear zz; have zz := hW.mono bz; clear hW; have hW := zz; clear zz; have zz := below_then bk bz; clear bk; have bk := zz; clear zz; obtain ⟨i1, i2, i3, i4, i5, i6, rfl⟩ := u1.shape)) | (go_at_call 14; ((with_reducible refine (one_any _ 22 (T.un 15 ta) _ (by decide) u1).mono ?_); rintro e ws ⟨⟨x2, rfl, u2⟩, bz⟩; have zz := u1.mono bz; clear u1; have u1 := zz; clear zz; have zz := cell_next bz ca0; clear ca0; have ca0 := zz; clear zz; have zz := cell_next bz ca1; clear ca1; have ca1 := zz; clear zz; have zz := cell_next bz ca2; clear ca2; have ca2 := zz; clear zz; have zz := cell_next bz ca3; clear ca3; have ca3 := zz; clear zz; have zz := cell_next bz cb0; clear cb0; have cb0 := zz; clear zz; have zz := cell_next bz cb1; clear cb1; have cb1 := zz; clear zz; have zz := cell_next bz cb2; clear cb2; have cb2 := zz; clear zz; have zz := cell_next bz cb3; clear cb3; have cb3 := zz; clear zz; have zz := cell_next bz cw0; clear cw0; have cw0 := zz; clear zz; have zz := cell_next bz cw1; clear cw1; have cw1 := zz; clear zz; have zz := hA.mono bz; clear hA; have hA := zz; clear zz; have zz := hB.mono bz; clear hB; have hB := zz; clear zz; have zz := hW.mono bz; clear hW; have hW := zz; clear zz; have zz := below_then bk bz; clear bk; have bk := zz; clear zz; obtain ⟨i1, i2, i3, i4, i5, i6, rfl⟩ := u2.shape)) | (go_at_call 13; ((with_reducible refine (not_any _ (T.un 22 (T.un 15 ta)) _ u2).mono ?_); rintro e ws ⟨⟨x3, rfl, u3⟩, bz⟩; have zz := u1.mono bz; clear u1; have u1 := zz; clear zz; have zz := u2.mono bz; clear u2; have u2 := zz; clear zz; have zz := cell_next bz ca0; clear ca0; have ca0 := zz; clear zz; have zz := cell_next bz ca1; clear ca1; have ca1 := zz; clear zz; have zz := cell_next bz ca2; clear ca2; have ca2 := zz; clear zz; have zz := cell_next bz ca3; clear ca3; have ca3 := zz; clear zz; have zz := cell_next bz cb0; clear cb0; have cb0 := zz; clear zz; have zz := cell_next bz cb1; clear cb1; have cb1 := zz; clear zz; have zz := cell_next bz cb2; clear cb2; have cb2 := zz; clear zz; have zz := cell_next bz cb3; clear cb3; have cb3 := zz; clear zz; have zz := cell_next bz cw0; clear cw0; have cw0 := zz; clear zz; have zz := cell_next bz cw1; clear cw1; have cw1 := zz; clear zz; have zz := hA.mono bz; clear hA; have hA := zz; clear zz; have zz := hB.mono bz; clear hB; have hB := zz; clear zz; have zz := hW.mono bz; clear hW; have hW := zz; clear zz; have zz := below_then bk bz; clear bk; have bk := zz; clear zz; obtain ⟨i1, i2, i3, i4, i5, i6, rfl⟩ := u3.shape)) | (go_at_call 11; ((with_reducible refine (all_at (T.un 15 (T.un 22 (T.un 15 ta))) _ _ wa wn wk l row u3 hW ((HFA.out.not).time (.inr (.inr rfl))).not (by omega) hl).mono ?_); rintro e ws ⟨⟨gg, rfl, _, rg⟩, bz⟩; have zz := cell_next bz ca0; clear ca0; have ca0 := zz; clear zz; have zz := cell_next bz ca1; clear ca1; have ca1 := zz; clear zz; have zz := cell_next bz ca2; clear ca2; have ca2 := zz; clear zz; have zz := cell_next bz ca3; clear ca3; have ca3 := zz; clear zz; have zz := cell_next bz cb0; clear cb0; have cb0 := zz; clear zz; have zz := cell_next bz cb1; clear cb1; have cb1 := zz; clear zz; have zz := cell_next bz cb2; clear cb2; have cb2 := zz; clear zz; have zz := cell_next bz cb3; clear cb3; have cb3 := zz; clear zz; have zz := cell_next bz cw0; clear cw0; have cw0 := zz; clear zz; have zz := cell_next bz cw1; clear cw1; have cw1 := zz; clear zz; have zz := hA.mono bz; clear hA; have hA := zz; clear zz; have zz := hB.mono bz; clear hB; have hB := zz; clear zz; have zz := hW.mono bz; clear hW; have hW := zz; clear zz; have zz := below_then bk bz; clear bk; have bk := zz; clear zz)))
  replace pa := (bk.block ga (Array.getElem?_eq_some_iff.1 pa).1).trans pa
  replace pb := (bk.block gb (Array.getElem?_eq_some_iff.1 pb).1).trans pb
  replace pw := (bk.block gw (Array.getElem?_eq_some_iff.1 pw).1).trans pw
  replace rx := rx.mono bk
  replace ry := ry.mono bk
  replace ru := ru.mono bk
  replace rr := rr.mono bk
  replace rn := rn.mono bk
  replace rf := rf.mono bk
  replace bt := below_then bt bk
  clear bk hA hB hW bz u1 u2 u3
  obtain ⟨w20, hws⟩ : ∃ x, ws = x := ⟨_, rfl⟩
  subst hws
  go_upto_region 11 with fail
  clear ca0 ca1 ca2 ca3 cb0 cb1 cb2 cb3 cw0 cw1
  have bk : Below ws.heap.size ws ws.drew := (Below.refl _ _).drew
  have ca0 : ws.drew.cell? ⟨ga, 0, none⟩ = some (.int .i64 oa) := cell_of_row _ _ 0 _ _ _ pa
  have ca1 : ws.drew.cell? ⟨ga, 1, none⟩ = some (.int .i64 na) := cell_of_row _ _ 1 _ _ _ pa
  have ca2 : ws.drew.cell? ⟨ga, 2, none⟩ = some (.int .i64 qa) := cell_of_row _ _ 2 _ _ _ pa
  have ca3 : ws.drew.cell? ⟨ga, 3, none⟩ = some (.slice aa la ca) := cell_of_row _ _ 3 _ _ _ pa
  have cb0 : ws.drew.cell? ⟨gb, 0, none⟩ = some (.int .i64 ob) := cell_of_row _ _ 0 _ _ _ pb
  have cb1 : ws.drew.cell? ⟨gb, 1, none⟩ = some (.int .i64 nb) := cell_of_row _ _ 1 _ _ _ pb
  have cb2 : ws.drew.cell? ⟨gb, 2, none⟩ = some (.int .i64 qb) := cell_of_row _ _ 2 _ _ _ pb
  have cb3 : ws.drew.cell? ⟨gb, 3, none⟩ = some (.slice ab lb cb) := cell_of_row _ _ 3 _ _ _ pb
  have cw0 : ws.drew.cell? ⟨gw, 0, none⟩ = some (.slice wa wn wk) := cell_of_row _ _ 0 _ _ _ pw
  have cw1 : ws.drew.cell? ⟨gw, 1, none⟩ = some (.int .i64 (l : Nat)) := cell_of_row _ _ 1 _ _ _ pw
  have hA := hta.mono (below_then bt bk)
  have hB := htb.mono (below_then bt bk)
  have hW := hr.mono (below_then bt bk)
  go_region_held3 (fun w' => w'.cell? ⟨ga, 0, none⟩ = some (.int .i64 oa) ∧ w'.cell? ⟨ga, 1, none⟩ = some (.int .i64 na) ∧ w'.cell? ⟨ga, 2, none⟩ = some (.int .i64 qa) ∧ w'.cell? ⟨ga, 3, none⟩ = some (.slice aa la ca) ∧ w'.cell? ⟨gb, 0, none⟩ = some (.int .i64 ob) ∧ w'.cell? ⟨gb, 1, none⟩ = some (.int .i64 nb) ∧ w'.cell? ⟨gb, 2, none⟩ = some (.int .i64 qb) ∧ w'.cell? ⟨gb, 3, none⟩ = some (.slice ab lb cb) ∧ w'.cell? ⟨gw, 0, none⟩ = some (.slice wa wn wk) ∧ w'.cell? ⟨gw, 1, none⟩ = some (.int .i64 (l : Nat)))
    (refine ⟨?_, ?_, ?_, ?_, ?_, ?_, ?_, ?_, ?_, ?_⟩ <;> with_reducible assumption)
    (first | (go_at_call 12; ((with_reducible refine (two_any _ 23 (T.leaf 13 0) ta _ _ (by decide) (TreeAt.leaf _ (by decide) (by decide)) hA).mono ?_); rintro e ws ⟨⟨x1, rfl, u1⟩, bz⟩; have zz := cell_next bz ca0; clear ca0; have ca0 := zz; clear zz; have zz := cell_next bz ca1; clear ca1; have ca1 := zz; clear zz; have zz := cell_next bz ca2; clear ca2; have ca2 := zz; clear zz; have zz := cell_next bz ca3; clear ca3; have ca3 := zz; clear zz; have zz := cell_next bz cb0; clear cb0; have cb0 := zz; clear zz; have zz := cell_next bz cb1; clear cb1; have cb1 := zz; clear zz; have zz := cell_next bz cb2; clear cb2; have cb2 := zz; clear zz; have zz := cell_next bz cb3; clear cb3; have cb3 := zz; clear zz; have zz := cell_next bz cw0; clear cw0; have cw0 := zz; clear zz; have zz := cell_next bz cw1; clear cw1; have cw1 := zz; clear zz; have zz := hA.mono bz; clear hA; have hA := zz; clear zz; have zz := hB.mono bz; clear hB; have hB := zz; clear zz; have zz := hW.mono bz; clear hW; have hW := zz; clear zz; have zz := below_then bk bz; clear bk; have bk := zz; clear zz; obtain ⟨i1, i2, i3, i4, i5, i6, rfl⟩ := u1.shape)) | (go_at_call 11; ((with_reducible refine (all_at (T.bin 23 (T.leaf 13 0) ta) _ _ wa wn wk l row u1 hW (FmP.yes.two HFA.out (.inr (.inr (.inl rfl)))) (by omega) hl).mono ?_); rintro e ws ⟨⟨gt, rfl, _, rt⟩, bz⟩; have zz := cell_next bz ca0; clear ca0; have ca0 := zz; clear zz; have zz := cell_next bz ca1; clear ca1; have ca1 := zz; clear zz; have zz := cell_next bz ca2; clear ca2; have ca2 := zz; clear zz; have zz := cell_next bz ca3; clear ca3; have ca3 := zz; clear zz; have zz := cell_next bz cb0; clear cb0; have cb0 := zz; clear zz; have zz := cell_next bz cb1; clear cb1; have cb1 := zz; clear zz; have zz := cell_next bz cb2; clear cb2; have cb2 := zz; clear zz; have zz := cell_next bz cb3; clear cb3; have cb3 := zz; clear zz; have zz := cell_next bz cw0; clear cw0; have cw0 := zz; clear zz; have zz := cell_next bz cw1; clear cw1; have cw1 := zz; clear zz; have zz := hA.mono bz; clear hA; have hA := zz; clear zz; have zz := hB.mono bz; clear hB; have hB := zz; clear zz; have zz := hW.mono bz; clear hW; have hW := zz; clear zz; have zz := below_then bk bz; clear bk; have bk := zz; clear zz)))
  replace pa := (bk.block ga (Array.getElem?_eq_some_iff.1 pa).1).trans pa
  replace pb := (bk.block gb (Array.getElem?_eq_some_iff.1 pb).1).trans pb
  replace pw := (bk.block gw (Array.getElem?_eq_some_iff.1 pw).1).trans pw
  replace rx := rx.mono bk
  replace ry := ry.mono bk
  replace ru := ru.mono bk
  replace rr := rr.mono bk
  replace rn := rn.mono bk
  replace rf := rf.mono bk
  replace rg := rg.mono bk
  replace bt := below_then bt bk
  clear bk hA hB hW bz u1
  obtain ⟨w21, hws⟩ : ∃ x, ws = x := ⟨_, rfl⟩
  subst hws
  go_upto_region 12 with fail
  clear ca0 ca1 ca2 ca3 cb0 cb1 cb2 cb3 cw0 cw1
  have bk : Below ws.heap.size ws ws.drew := (Below.refl _ _).drew
  have ca0 : ws.drew.cell? ⟨ga, 0, none⟩ = some (.int .i64 oa) := cell_of_row _ _ 0 _ _ _ pa
  have ca1 : ws.drew.cell? ⟨ga, 1, none⟩ = some (.int .i64 na) := cell_of_row _ _ 1 _ _ _ pa
  have ca2 : ws.drew.cell? ⟨ga, 2, none⟩ = some (.int .i64 qa) := cell_of_row _ _ 2 _ _ _ pa
  have ca3 : ws.drew.cell? ⟨ga, 3, none⟩ = some (.slice aa la ca) := cell_of_row _ _ 3 _ _ _ pa
  have cb0 : ws.drew.cell? ⟨gb, 0, none⟩ = some (.int .i64 ob) := cell_of_row _ _ 0 _ _ _ pb
  have cb1 : ws.drew.cell? ⟨gb, 1, none⟩ = some (.int .i64 nb) := cell_of_row _ _ 1 _ _ _ pb
  have cb2 : ws.drew.cell? ⟨gb, 2, none⟩ = some (.int .i64 qb) := cell_of_row _ _ 2 _ _ _ pb
  have cb3 : ws.drew.cell? ⟨gb, 3, none⟩ = some (.slice ab lb cb) := cell_of_row _ _ 3 _ _ _ pb
  have cw0 : ws.drew.cell? ⟨gw, 0, none⟩ = some (.slice wa wn wk) := cell_of_row _ _ 0 _ _ _ pw
  have cw1 : ws.drew.cell? ⟨gw, 1, none⟩ = some (.int .i64 (l : Nat)) := cell_of_row _ _ 1 _ _ _ pw
  have hA := hta.mono (below_then bt bk)
  have hB := htb.mono (below_then bt bk)
  have hW := hr.mono (below_then bt bk)
  go_region_held3 (fun w' => w'.cell? ⟨ga, 0, none⟩ = some (.int .i64 oa) ∧ w'.cell? ⟨ga, 1, none⟩ = some (.int .i64 na) ∧ w'.cell? ⟨ga, 2, none⟩ = some (.int .i64 qa) ∧ w'.cell? ⟨ga, 3, none⟩ = some (.slice aa la ca) ∧ w'.cell? ⟨gb, 0, none⟩ = some (.int .i64 ob) ∧ w'.cell? ⟨gb, 1, none⟩ = some (.int .i64 nb) ∧ w'.cell? ⟨gb, 2, none⟩ = some (.int .i64 qb) ∧ w'.cell? ⟨gb, 3, none⟩ = some (.slice ab lb cb) ∧ w'.cell? ⟨gw, 0, none⟩ = some (.slice wa wn wk) ∧ w'.cell? ⟨gw, 1, none⟩ = some (.int .i64 (l : Nat)))
    (refine ⟨?_, ?_, ?_, ?_, ?_, ?_, ?_, ?_, ?_, ?_⟩ <;> with_reducible assumption)
    (first | (go_at_call 13; ((with_reducible refine (not_any _ ta _ hA).mono ?_); rintro e ws ⟨⟨x1, rfl, u1⟩, bz⟩; have zz := cell_next bz ca0; clear ca0; have ca0 := zz; clear zz; have zz := cell_next bz ca1; clear ca1; have ca1 := zz; clear zz; have zz := cell_next bz ca2; clear ca2; have ca2 := zz; clear zz; have zz := cell_next bz ca3; clear ca3; have ca3 := zz; clear zz; have zz := cell_next bz cb0; clear cb0; have cb0 := zz; clear zz; have zz := cell_next bz cb1; clear cb1; have cb1 := zz; clear zz; have zz := cell_next bz cb2; clear cb2; have cb2 := zz; clear zz; have zz := cell_next bz cb3; clear cb3; have cb3 := zz; clear zz; have zz := cell_next bz cw0; clear cw0; have cw0 := zz; clear zz; have zz := cell_next bz cw1; clear cw1; have cw1 := zz; clear zz; have zz := hA.mono bz; clear hA; have hA := zz; clear zz; have zz := hB.mono bz; clear hB; have hB := zz; clear zz; have zz := hW.mono bz; clear hW; have hW := zz; clear zz; have zz := below_then bk bz; clear bk; have bk := zz; clear zz; obtain ⟨i1, i2, i3, i4, i5, i6, rfl⟩ := u1.shape)) | (go_at_call 11; ((with_reducible refine (all_at (T.un 15 ta) _ _ wa wn wk l row u1 hW (HFA.out.not) (by omega) hl).mono ?_); rintro e ws ⟨⟨gz, rfl, _, rz⟩, bz⟩; have zz := cell_next bz ca0; clear ca0; have ca0 := zz; clear zz; have zz := cell_next bz ca1; clear ca1; have ca1 := zz; clear zz; have zz := cell_next bz ca2; clear ca2; have ca2 := zz; clear zz; have zz := cell_next bz ca3; clear ca3; have ca3 := zz; clear zz; have zz := cell_next bz cb0; clear cb0; have cb0 := zz; clear zz; have zz := cell_next bz cb1; clear cb1; have cb1 := zz; clear zz; have zz := cell_next bz cb2; clear cb2; have cb2 := zz; clear zz; have zz := cell_next bz cb3; clear cb3; have cb3 := zz; clear zz; have zz := cell_next bz cw0; clear cw0; have cw0 := zz; clear zz; have zz := cell_next bz cw1; clear cw1; have cw1 := zz; clear zz; have zz := hA.mono bz; clear hA; have hA := zz; clear zz; have zz := hB.mono bz; clear hB; have hB := zz; clear zz; have zz := hW.mono bz; clear hW; have hW := zz; clear zz; have zz := below_then bk bz; clear bk; have bk := zz; clear zz)))
  replace pa := (bk.block ga (Array.getElem?_eq_some_iff.1 pa).1).trans pa
  replace pb := (bk.block gb (Array.getElem?_eq_some_iff.1 pb).1).trans pb
  replace pw := (bk.block gw (Array.getElem?_eq_some_iff.1 pw).1).trans pw
  replace rx := rx.mono bk
  replace ry := ry.mono bk
  replace ru := ru.mono bk
  replace rr := rr.mono bk
  replace rn := rn.mono bk
  replace rf := rf.mono bk
  replace rg := rg.mono bk
  replace rt := rt.mono bk
  replace bt := below_then bt bk
  clear bk hA hB hW bz u1
  obtain ⟨w22, hws⟩ : ∃ x, ws = x := ⟨_, rfl⟩
  subst hws
  clear ca0 ca1 ca2 ca3 cb0 cb1 cb2 cb3 cw0 cw1
  have ca0 : ws.cell? ⟨ga, 0, none⟩ = some (.int .i64 oa) := cell_of_row _ _ 0 _ _ _ pa
  have ca1 : ws.cell? ⟨ga, 1, none⟩ = some (.int .i64 na) := cell_of_row _ _ 1 _ _ _ pa
  have ca2 : ws.cell? ⟨ga, 2, none⟩ = some (.int .i64 qa) := cell_of_row _ _ 2 _ _ _ pa
  have ca3 : ws.cell? ⟨ga, 3, none⟩ = some (.slice aa la ca) := cell_of_row _ _ 3 _ _ _ pa
  have cb0 : ws.cell? ⟨gb, 0, none⟩ = some (.int .i64 ob) := cell_of_row _ _ 0 _ _ _ pb
  have cb1 : ws.cell? ⟨gb, 1, none⟩ = some (.int .i64 nb) := cell_of_row _ _ 1 _ _ _ pb
  have cb2 : ws.cell? ⟨gb, 2, none⟩ = some (.int .i64 qb) := cell_of_row _ _ 2 _ _ _ pb
  have cb3 : ws.cell? ⟨gb, 3, none⟩ = some (.slice ab lb cb) := cell_of_row _ _ 3 _ _ _ pb
  have cw0 : ws.cell? ⟨gw, 0, none⟩ = some (.slice wa wn wk) := cell_of_row _ _ 0 _ _ _ pw
  have cw1 : ws.cell? ⟨gw, 1, none⟩ = some (.int .i64 (l : Nat)) := cell_of_row _ _ 1 _ _ _ pw
  have hvl := bt.size
  have b0 := Below.refl ws.heap.size ws
  go_upto_region 17 with fail
  have HC0 := Lib.hid ca0
  have HC1 := Lib.hid ca1
  have HC2 := Lib.hid ca2
  have HC3 := Lib.hid ca3
  have HC4 := Lib.hid cb0
  have HC5 := Lib.hid cb1
  have HC6 := Lib.hid cb2
  have HC7 := Lib.hid cb3
  have HC8 := Lib.hid cw0
  have HC9 := Lib.hid cw1
  have BT := Lib.hid bt
  have RX := Lib.hid rx
  have RY := Lib.hid ry
  have RU := Lib.hid ru
  have RR := Lib.hid rr
  have RN := Lib.hid rn
  have RF := Lib.hid rf
  have RG := Lib.hid rg
  have RT := Lib.hid rt
  have RZ := Lib.hid rz
  clear ca0 ca1 ca2 ca3 cb0 cb1 cb2 cb3 cw0 cw1 bt pa pb pw rx ry ru rr rn rf rg rt rz
  go_wp2_with fail
  go_loopw [18] (fun i w' => ∃ j : Nat, j ≤ wn ∧ i = .int .i64 (j : Nat) ∧ Below ws.heap.size ws w') (fun i _ => wn - (intOf i).toNat)
  case atStart => exact ⟨0, Nat.zero_le _, rfl, b0⟩
  case round =>
    obtain ⟨j, hj, rfl, hb⟩ := hrel
    by_cases hjn : j < wn
    · have f1 : decide (j < wn) = true := by simpa using hjn
      have d0 := cell_next hb HC8.out
      have d1 := cell_next hb HC9.out
      go_wp2_with fail
      refine (refNext_any wr wa wn wk l j hjn (by omega)).mono ?_
      rintro e w2 ⟨rfl, b2⟩
      have bb := below_then hb b2
      have hla := laws_at wn l row ta tb j
      have hjj := nextW_lt (i := j) hl
      obtain ⟨jj, hJ⟩ : ∃ x, nextW wn l j = x := ⟨_, rfl⟩
      rw [hJ] at hla hjj ⊢
      obtain ⟨lu, lr, ln, lg, lt_, lf, lz⟩ := hla
      have e_x := World.rowIs.cell (RX.out.mono bb) hjn
      have e_y := World.rowIs.cell (RY.out.mono bb) hjn
      have e_u := World.rowIs.cell (RU.out.mono bb) hjn
      have e_r := World.rowIs.cell (RR.out.mono bb) hjn
      have e_n := World.rowIs.cell (RN.out.mono bb) hjn
      have e_f := World.rowIs.cell (RF.out.mono bb) hjn
      have e_g := World.rowIs.cell (RG.out.mono bb) hjn
      have e_t := World.rowIs.cell (RT.out.mono bb) hjn
      have e_z := World.rowIs.cell (RZ.out.mono bb) hjn
      have j_u := World.rowIs.cell (RU.out.mono bb) hjj
      have j_r := World.rowIs.cell (RR.out.mono bb) hjj
      have j_f := World.rowIs.cell (RF.out.mono bb) hjj
      rw [lu] at e_u
      rw [lr] at e_r
      rw [ln, lr] at e_n
      rw [lf] at e_f
      rw [lg, lf] at e_g
      rw [lt_, lf] at e_t
      rw [lz] at e_z
      clear hJ lu lr ln lg lt_ lf lz d0 d1 b2 hb
      obtain ⟨X, hX⟩ : ∃ X, hT wn l row ta j = X := ⟨_, rfl⟩
      obtain ⟨Y, hY⟩ : ∃ Y, hT wn l row tb j = Y := ⟨_, rfl⟩
      obtain ⟨Uj, hUj⟩ : ∃ Y, hT wn l row (T.bin 23 ta tb) jj = Y := ⟨_, rfl⟩
      obtain ⟨Rj, hRj⟩ : ∃ Y, hT wn l row (T.bin 24 ta tb) jj = Y := ⟨_, rfl⟩
      obtain ⟨Fj, hFj⟩ : ∃ Y, hT wn l row (T.un 21 ta) jj = Y := ⟨_, rfl⟩
      rw [hX] at e_x e_u e_r e_n e_f e_g e_t e_z
      rw [hY] at e_y e_u e_r e_n
      rw [hUj] at e_u j_u
      rw [hRj] at e_r e_n j_r
      rw [hFj] at e_f e_g e_t j_f
      clear hX hY hUj hRj hFj
      have BB := Lib.hid bb
      clear bb
      cases X <;> cases Y
      all_goals
        simp only [Bool.false_or, Bool.true_or, Bool.false_and, Bool.true_and, Bool.not_true, Bool.not_false] at e_x e_y e_u e_r e_n e_f e_g e_t e_z
        have k_x := cell_later e_x
        have k_y := cell_later e_y
        have k_u := cell_later e_u
        have k_r := cell_later e_r
        have k_n := cell_later e_n
        have k_f := cell_later e_f
        have k_g := cell_later e_g
        have k_t := cell_later e_t
        have k_z := cell_later e_z
        have m_u := cell_later j_u
        have m_r := cell_later j_r
        have m_f := cell_later j_f
        clear e_x e_y e_u e_r e_n e_f e_g e_t e_z j_u j_r j_f
        go_wp2_with fail
        simp only [List.append_eq, List.cons_append, List.nil_append]
        refine wp_region_later w2.heap.size w2 (by kernel_rfl) (lex_of lex20 (by kernel_rfl)) (Below.refl _ _) ?_
        try simp only [List.append_eq, List.cons_append, List.nil_append]
        repeat (go_big_quiet_step (fail))
        refine wpQuiet_nil ?_
        intro _ hlat
        obtain ⟨z, rfl⟩ := hlat
        go_wp2_with fail
        exact ⟨⟨j + 1, by omega, by simp, below_then BB.out z.below⟩, by simp [intOf]; omega⟩
    · have f1 : decide (j < wn) = false := by simpa using hjn
      have nH := fun z : Later wr.heap.size wr => holds_any z.w ta _ wa wn wk l row (hta.mono (below_then BT.out (below_then hb z.below))) (hr.mono (below_then BT.out (below_then hb z.below))) HFA.out (by omega) hl
      have q0 := cell_later (cell_next hb HC0.out)
      have q1 := cell_later (cell_next hb HC1.out)
      have q2 := cell_later (cell_next hb HC2.out)
      have q3 := cell_later (cell_next hb HC3.out)
      have q8 := cell_later (cell_next hb HC8.out)
      have q9 := cell_later (cell_next hb HC9.out)
      have x0 := cell_later (World.rowIs.cell (RX.out.mono hb) (show 0 < wn by omega))
      obtain ⟨H, hH⟩ : ∃ H, hT wn l row ta 0 = H := ⟨_, rfl⟩
      rw [hH] at x0 nH
      have h0n : 0 < wn := by omega
      clear hH
      go_wp2_with fail
      refine wp_region_later wr.heap.size wr (by kernel_rfl) (by kernel_rfl) (Below.refl _ _) ?_
      repeat (go_big_quiet_step ((go_at_call 16; refine Calls.later0 (nH _))))
      refine wpQuiet_nil ?_
      intro _ hlat
      obtain ⟨z, rfl⟩ := hlat
      go_wp2_with fail
      go_ret
      exact ⟨rfl, below_then BT.out (below_then hb z.below)⟩
end Go.Proofs.Ytogdfjcgcdbnaaa
