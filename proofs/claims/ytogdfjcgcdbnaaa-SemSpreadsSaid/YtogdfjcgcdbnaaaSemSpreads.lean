/- SemSpreads returns true (by gen17x.py). -/
import Derived.Test.YtogdfjcgcdbnaaaSemSp
namespace Go.Proofs.Ytogdfjcgcdbnaaa
open Go.RowKit
set_option linter.unusedVariables false
set_option linter.unusedSimpArgs false

theorem row_al {w : World} {g : Nat} {o : Obj} (x : Obj) (h : w.heap[g]? = some o) : (w.alloc x).heap[g]? = some o := (((Below.refl w.heap.size w).alloc (Nat.le_refl _) x).block g (Array.getElem?_eq_some_iff.1 h).1).trans h
theorem heap5 (w : World) (A B C D E : Array Value) (t1 t2 t3 t4 t5 : TypeId) : (((((w.alloc (.cells A t1)).alloc (.cells B t2)).alloc (.cells C t3)).alloc (.cells D t4)).alloc (.cells E t5)).heap[w.heap.size + 1]? = some (.cells B t2 (0, 0)) ∧
    (((((w.alloc (.cells A t1)).alloc (.cells B t2)).alloc (.cells C t3)).alloc (.cells D t4)).alloc (.cells E t5)).heap[w.heap.size + 1 + 1]? = some (.cells C t3 (0, 0)) ∧
    (((((w.alloc (.cells A t1)).alloc (.cells B t2)).alloc (.cells C t3)).alloc (.cells D t4)).alloc (.cells E t5)).heap[w.heap.size + 1 + 1 + 1]? = some (.cells D t4 (0, 0)) ∧
    (((((w.alloc (.cells A t1)).alloc (.cells B t2)).alloc (.cells C t3)).alloc (.cells D t4)).alloc (.cells E t5)).heap[w.heap.size + 1 + 1 + 1 + 1]? = some (.cells E t5 (0, 0)) ∧
    Below w.heap.size w (((((w.alloc (.cells A t1)).alloc (.cells B t2)).alloc (.cells C t3)).alloc (.cells D t4)).alloc (.cells E t5)) := by
  have h1 := heap_alloc_new (w.alloc (.cells A t1)) (.cells B t2)
  have h2 := heap_alloc_new ((w.alloc (.cells A t1)).alloc (.cells B t2)) (.cells C t3)
  have h3 := heap_alloc_new (((w.alloc (.cells A t1)).alloc (.cells B t2)).alloc (.cells C t3)) (.cells D t4)
  have h4 := heap_alloc_new ((((w.alloc (.cells A t1)).alloc (.cells B t2)).alloc (.cells C t3)).alloc (.cells D t4)) (.cells E t5)
  simp only [World.size_alloc] at h1 h2 h3 h4
  exact ⟨row_al _ (row_al _ (row_al _ h1)), row_al _ (row_al _ h2), row_al _ h3, h4, ((((Below.refl _ _).alloc (Nat.le_refl _) _).alloc (by simp) _).alloc (by simp; omega) _).alloc (by simp; omega) _ |>.alloc (by simp; omega) _⟩
set_option maxRecDepth 100000 in
set_option maxHeartbeats 8000000 in
theorem semspreads_any (w : World) (ta tb tc : T) (oa na qa ob nb qb oc nc qc : Int) (aa ab ac : Option Addr) (la ca lb cb lc cc : Nat) (wa : Option Addr) (wn wk : Nat) (L : Int) (row : Nat → List Int) (hta : TreeAt w ta (.agg #[.int .i64 oa, .int .i64 na, .int .i64 qa, .slice aa la ca])) (htb : TreeAt w tb (.agg #[.int .i64 ob, .int .i64 nb, .int .i64 qb, .slice ab lb cb])) (htc : TreeAt w tc (.agg #[.int .i64 oc, .int .i64 nc, .int .i64 qc, .slice ac lc cc])) (hr : WordAt w wa wn row) (hnb : wn ≤ 9223372036854775807) :
    Calls Try.prog 6 #[.agg #[.int .i64 oa, .int .i64 na, .int .i64 qa, .slice aa la ca, .int .i64 ob, .int .i64 nb, .int .i64 qb, .slice ab lb cb, .int .i64 oc, .int .i64 nc, .int .i64 qc, .slice ac lc cc, .slice wa wn wk, .int .i64 L]] w fun e w' => e = .returned (.bool true) ∧ Below w.heap.size w w' := by
  obtain ⟨pa, pb, pc, pw, bt⟩ := heap5 w #[.int .i64 oa, .int .i64 na, .int .i64 qa, .slice aa la ca, .int .i64 ob, .int .i64 nb, .int .i64 qb, .slice ab lb cb, .int .i64 oc, .int .i64 nc, .int .i64 qc, .slice ac lc cc, .slice wa wn wk, .int .i64 L] #[.int .i64 oa, .int .i64 na, .int .i64 qa, .slice aa la ca] #[.int .i64 ob, .int .i64 nb, .int .i64 qb, .slice ab lb cb] #[.int .i64 oc, .int .i64 nc, .int .i64 qc, .slice ac lc cc] #[.slice wa wn wk, .int .i64 L] 44 24 24 24 27
  go_enter Try.func6, Try.ntmps6
  go_upto_region 5 with fail
  obtain ⟨v, hv⟩ : ∃ v, (((((w.alloc (.cells #[.int .i64 oa, .int .i64 na, .int .i64 qa, .slice aa la ca, .int .i64 ob, .int .i64 nb, .int .i64 qb, .slice ab lb cb, .int .i64 oc, .int .i64 nc, .int .i64 qc, .slice ac lc cc, .slice wa wn wk, .int .i64 L] 44)).alloc (.cells #[.int .i64 oa, .int .i64 na, .int .i64 qa, .slice aa la ca] 24)).alloc (.cells #[.int .i64 ob, .int .i64 nb, .int .i64 qb, .slice ab lb cb] 24)).alloc (.cells #[.int .i64 oc, .int .i64 nc, .int .i64 qc, .slice ac lc cc] 24)).alloc (.cells #[.slice wa wn wk, .int .i64 L] 27)) = v := ⟨_, rfl⟩
  rw [hv] at pa pb pc pw bt ⊢
  obtain ⟨gw, hgw⟩ : ∃ g, w.heap.size + 1 + 1 + 1 + 1 = g := ⟨_, rfl⟩
  rw [hgw] at pw ⊢
  obtain ⟨gc, hgc⟩ : ∃ g, w.heap.size + 1 + 1 + 1 = g := ⟨_, rfl⟩
  rw [hgc] at pc ⊢
  obtain ⟨gb, hgb⟩ : ∃ g, w.heap.size + 1 + 1 = g := ⟨_, rfl⟩
  rw [hgb] at pb ⊢
  obtain ⟨ga, hga⟩ : ∃ g, w.heap.size + 1 = g := ⟨_, rfl⟩
  rw [hga] at pa ⊢
  clear hga hgb hgc hgw hv
  have ka0 : v.cell? ⟨ga, 0, none⟩ = some (.int .i64 oa) := cell_of_row _ _ 0 _ _ _ pa
  have ka1 : v.cell? ⟨ga, 1, none⟩ = some (.int .i64 na) := cell_of_row _ _ 1 _ _ _ pa
  have ka2 : v.cell? ⟨ga, 2, none⟩ = some (.int .i64 qa) := cell_of_row _ _ 2 _ _ _ pa
  have ka3 : v.cell? ⟨ga, 3, none⟩ = some (.slice aa la ca) := cell_of_row _ _ 3 _ _ _ pa
  have kb0 : v.cell? ⟨gb, 0, none⟩ = some (.int .i64 ob) := cell_of_row _ _ 0 _ _ _ pb
  have kb1 : v.cell? ⟨gb, 1, none⟩ = some (.int .i64 nb) := cell_of_row _ _ 1 _ _ _ pb
  have kb2 : v.cell? ⟨gb, 2, none⟩ = some (.int .i64 qb) := cell_of_row _ _ 2 _ _ _ pb
  have kb3 : v.cell? ⟨gb, 3, none⟩ = some (.slice ab lb cb) := cell_of_row _ _ 3 _ _ _ pb
  have kc0 : v.cell? ⟨gc, 0, none⟩ = some (.int .i64 oc) := cell_of_row _ _ 0 _ _ _ pc
  have kc1 : v.cell? ⟨gc, 1, none⟩ = some (.int .i64 nc) := cell_of_row _ _ 1 _ _ _ pc
  have kc2 : v.cell? ⟨gc, 2, none⟩ = some (.int .i64 qc) := cell_of_row _ _ 2 _ _ _ pc
  have kc3 : v.cell? ⟨gc, 3, none⟩ = some (.slice ac lc cc) := cell_of_row _ _ 3 _ _ _ pc
  have kw0 : v.cell? ⟨gw, 0, none⟩ = some (.slice wa wn wk) := cell_of_row _ _ 0 _ _ _ pw
  have kw1 : v.cell? ⟨gw, 1, none⟩ = some (.int .i64 L) := cell_of_row _ _ 1 _ _ _ pw
  go_wp2_with fail
  refine (shown_any _).mono ?_
  rintro e w1 ⟨rfl, b1⟩
  clear ka0 ka1 ka2 ka3 kb0 kb1 kb2 kb3 kc0 kc1 kc2 kc3 kw0 kw1
  replace pa := (b1.block ga (Array.getElem?_eq_some_iff.1 pa).1).trans pa
  replace pb := (b1.block gb (Array.getElem?_eq_some_iff.1 pb).1).trans pb
  replace pc := (b1.block gc (Array.getElem?_eq_some_iff.1 pc).1).trans pc
  replace pw := (b1.block gw (Array.getElem?_eq_some_iff.1 pw).1).trans pw
  replace bt := below_then bt b1
  have ka0 : w1.cell? ⟨ga, 0, none⟩ = some (.int .i64 oa) := cell_of_row _ _ 0 _ _ _ pa
  have ka1 : w1.cell? ⟨ga, 1, none⟩ = some (.int .i64 na) := cell_of_row _ _ 1 _ _ _ pa
  have ka2 : w1.cell? ⟨ga, 2, none⟩ = some (.int .i64 qa) := cell_of_row _ _ 2 _ _ _ pa
  have ka3 : w1.cell? ⟨ga, 3, none⟩ = some (.slice aa la ca) := cell_of_row _ _ 3 _ _ _ pa
  have kb0 : w1.cell? ⟨gb, 0, none⟩ = some (.int .i64 ob) := cell_of_row _ _ 0 _ _ _ pb
  have kb1 : w1.cell? ⟨gb, 1, none⟩ = some (.int .i64 nb) := cell_of_row _ _ 1 _ _ _ pb
  have kb2 : w1.cell? ⟨gb, 2, none⟩ = some (.int .i64 qb) := cell_of_row _ _ 2 _ _ _ pb
  have kb3 : w1.cell? ⟨gb, 3, none⟩ = some (.slice ab lb cb) := cell_of_row _ _ 3 _ _ _ pb
  have kc0 : w1.cell? ⟨gc, 0, none⟩ = some (.int .i64 oc) := cell_of_row _ _ 0 _ _ _ pc
  have kc1 : w1.cell? ⟨gc, 1, none⟩ = some (.int .i64 nc) := cell_of_row _ _ 1 _ _ _ pc
  have kc2 : w1.cell? ⟨gc, 2, none⟩ = some (.int .i64 qc) := cell_of_row _ _ 2 _ _ _ pc
  have kc3 : w1.cell? ⟨gc, 3, none⟩ = some (.slice ac lc cc) := cell_of_row _ _ 3 _ _ _ pc
  have kw0 : w1.cell? ⟨gw, 0, none⟩ = some (.slice wa wn wk) := cell_of_row _ _ 0 _ _ _ pw
  have kw1 : w1.cell? ⟨gw, 1, none⟩ = some (.int .i64 L) := cell_of_row _ _ 1 _ _ _ pw
  by_cases h12 : 10 < wn
  · have f1 : decide (10 < wn) = true := by simpa using h12
    have f2 : decide ((10 : Int) < (wn : Int)) = true := by simp; omega
    go_wp2_with fail
    go_ret
    exact ⟨rfl, bt⟩
  have f1 : decide (10 < wn) = false := by simpa using h12
  have f2 : decide ((10 : Int) < (wn : Int)) = false := by simp; omega
  go_wp2_with fail
  refine (fewW_any _ wa wn wk L row (hr.mono bt) (by omega)).mono ?_
  rintro e w2 ⟨⟨FW, rfl⟩, b2⟩
  clear ka0 ka1 ka2 ka3 kb0 kb1 kb2 kb3 kc0 kc1 kc2 kc3 kw0 kw1
  replace pa := (b2.block ga (Array.getElem?_eq_some_iff.1 pa).1).trans pa
  replace pb := (b2.block gb (Array.getElem?_eq_some_iff.1 pb).1).trans pb
  replace pc := (b2.block gc (Array.getElem?_eq_some_iff.1 pc).1).trans pc
  replace pw := (b2.block gw (Array.getElem?_eq_some_iff.1 pw).1).trans pw
  replace bt := below_then bt b2
  have ka0 : w2.cell? ⟨ga, 0, none⟩ = some (.int .i64 oa) := cell_of_row _ _ 0 _ _ _ pa
  have ka1 : w2.cell? ⟨ga, 1, none⟩ = some (.int .i64 na) := cell_of_row _ _ 1 _ _ _ pa
  have ka2 : w2.cell? ⟨ga, 2, none⟩ = some (.int .i64 qa) := cell_of_row _ _ 2 _ _ _ pa
  have ka3 : w2.cell? ⟨ga, 3, none⟩ = some (.slice aa la ca) := cell_of_row _ _ 3 _ _ _ pa
  have kb0 : w2.cell? ⟨gb, 0, none⟩ = some (.int .i64 ob) := cell_of_row _ _ 0 _ _ _ pb
  have kb1 : w2.cell? ⟨gb, 1, none⟩ = some (.int .i64 nb) := cell_of_row _ _ 1 _ _ _ pb
  have kb2 : w2.cell? ⟨gb, 2, none⟩ = some (.int .i64 qb) := cell_of_row _ _ 2 _ _ _ pb
  have kb3 : w2.cell? ⟨gb, 3, none⟩ = some (.slice ab lb cb) := cell_of_row _ _ 3 _ _ _ pb
  have kc0 : w2.cell? ⟨gc, 0, none⟩ = some (.int .i64 oc) := cell_of_row _ _ 0 _ _ _ pc
  have kc1 : w2.cell? ⟨gc, 1, none⟩ = some (.int .i64 nc) := cell_of_row _ _ 1 _ _ _ pc
  have kc2 : w2.cell? ⟨gc, 2, none⟩ = some (.int .i64 qc) := cell_of_row _ _ 2 _ _ _ pc
  have kc3 : w2.cell? ⟨gc, 3, none⟩ = some (.slice ac lc cc) := cell_of_row _ _ 3 _ _ _ pc
  have kw0 : w2.cell? ⟨gw, 0, none⟩ = some (.slice wa wn wk) := cell_of_row _ _ 0 _ _ _ pw
  have kw1 : w2.cell? ⟨gw, 1, none⟩ = some (.int .i64 L) := cell_of_row _ _ 1 _ _ _ pw
  cases FW with
  | false =>
    go_wp2_with fail
    go_ret
    exact ⟨rfl, bt⟩
  | true =>
  go_wp2_with fail
  refine (refRight_any _ wa wn wk L hnb).mono ?_
  rintro e w3 ⟨rfl, b3⟩
  clear ka0 ka1 ka2 ka3 kb0 kb1 kb2 kb3 kc0 kc1 kc2 kc3 kw0 kw1
  replace pa := (b3.block ga (Array.getElem?_eq_some_iff.1 pa).1).trans pa
  replace pb := (b3.block gb (Array.getElem?_eq_some_iff.1 pb).1).trans pb
  replace pc := (b3.block gc (Array.getElem?_eq_some_iff.1 pc).1).trans pc
  replace pw := (b3.block gw (Array.getElem?_eq_some_iff.1 pw).1).trans pw
  replace bt := below_then bt b3
  have ka0 : w3.cell? ⟨ga, 0, none⟩ = some (.int .i64 oa) := cell_of_row _ _ 0 _ _ _ pa
  have ka1 : w3.cell? ⟨ga, 1, none⟩ = some (.int .i64 na) := cell_of_row _ _ 1 _ _ _ pa
  have ka2 : w3.cell? ⟨ga, 2, none⟩ = some (.int .i64 qa) := cell_of_row _ _ 2 _ _ _ pa
  have ka3 : w3.cell? ⟨ga, 3, none⟩ = some (.slice aa la ca) := cell_of_row _ _ 3 _ _ _ pa
  have kb0 : w3.cell? ⟨gb, 0, none⟩ = some (.int .i64 ob) := cell_of_row _ _ 0 _ _ _ pb
  have kb1 : w3.cell? ⟨gb, 1, none⟩ = some (.int .i64 nb) := cell_of_row _ _ 1 _ _ _ pb
  have kb2 : w3.cell? ⟨gb, 2, none⟩ = some (.int .i64 qb) := cell_of_row _ _ 2 _ _ _ pb
  have kb3 : w3.cell? ⟨gb, 3, none⟩ = some (.slice ab lb cb) := cell_of_row _ _ 3 _ _ _ pb
  have kc0 : w3.cell? ⟨gc, 0, none⟩ = some (.int .i64 oc) := cell_of_row _ _ 0 _ _ _ pc
  have kc1 : w3.cell? ⟨gc, 1, none⟩ = some (.int .i64 nc) := cell_of_row _ _ 1 _ _ _ pc
  have kc2 : w3.cell? ⟨gc, 2, none⟩ = some (.int .i64 qc) := cell_of_row _ _ 2 _ _ _ pc
  have kc3 : w3.cell? ⟨gc, 3, none⟩ = some (.slice ac lc cc) := cell_of_row _ _ 3 _ _ _ pc
  have kw0 : w3.cell? ⟨gw, 0, none⟩ = some (.slice wa wn wk) := cell_of_row _ _ 0 _ _ _ pw
  have kw1 : w3.cell? ⟨gw, 1, none⟩ = some (.int .i64 L) := cell_of_row _ _ 1 _ _ _ pw
  by_cases hR : 1 ≤ wn ∧ 0 ≤ L ∧ L < wn
  case neg =>
    rw [decide_eq_false hR]
    go_wp2_with fail
    go_ret
    exact ⟨rfl, bt⟩
  rw [decide_eq_true hR]
  obtain ⟨hw1, hL0, hLn⟩ := hR
  obtain ⟨l, rfl⟩ : ∃ l : Nat, L = (l : Int) := ⟨L.toNat, by omega⟩
  have hl : l < wn := by omega
  clear hL0 hLn
  go_wp2_with fail
  refine (formula_any _ ta _ 3 (hta.mono bt) (by decide)).mono ?_
  rintro e w4a ⟨⟨Ba, rfl, hBa⟩, b4⟩
  clear ka0 ka1 ka2 ka3 kb0 kb1 kb2 kb3 kc0 kc1 kc2 kc3 kw0 kw1
  replace pa := (b4.block ga (Array.getElem?_eq_some_iff.1 pa).1).trans pa
  replace pb := (b4.block gb (Array.getElem?_eq_some_iff.1 pb).1).trans pb
  replace pc := (b4.block gc (Array.getElem?_eq_some_iff.1 pc).1).trans pc
  replace pw := (b4.block gw (Array.getElem?_eq_some_iff.1 pw).1).trans pw
  replace bt := below_then bt b4
  have ka0 : w4a.cell? ⟨ga, 0, none⟩ = some (.int .i64 oa) := cell_of_row _ _ 0 _ _ _ pa
  have ka1 : w4a.cell? ⟨ga, 1, none⟩ = some (.int .i64 na) := cell_of_row _ _ 1 _ _ _ pa
  have ka2 : w4a.cell? ⟨ga, 2, none⟩ = some (.int .i64 qa) := cell_of_row _ _ 2 _ _ _ pa
  have ka3 : w4a.cell? ⟨ga, 3, none⟩ = some (.slice aa la ca) := cell_of_row _ _ 3 _ _ _ pa
  have kb0 : w4a.cell? ⟨gb, 0, none⟩ = some (.int .i64 ob) := cell_of_row _ _ 0 _ _ _ pb
  have kb1 : w4a.cell? ⟨gb, 1, none⟩ = some (.int .i64 nb) := cell_of_row _ _ 1 _ _ _ pb
  have kb2 : w4a.cell? ⟨gb, 2, none⟩ = some (.int .i64 qb) := cell_of_row _ _ 2 _ _ _ pb
  have kb3 : w4a.cell? ⟨gb, 3, none⟩ = some (.slice ab lb cb) := cell_of_row _ _ 3 _ _ _ pb
  have kc0 : w4a.cell? ⟨gc, 0, none⟩ = some (.int .i64 oc) := cell_of_row _ _ 0 _ _ _ pc
  have kc1 : w4a.cell? ⟨gc, 1, none⟩ = some (.int .i64 nc) := cell_of_row _ _ 1 _ _ _ pc
  have kc2 : w4a.cell? ⟨gc, 2, none⟩ = some (.int .i64 qc) := cell_of_row _ _ 2 _ _ _ pc
  have kc3 : w4a.cell? ⟨gc, 3, none⟩ = some (.slice ac lc cc) := cell_of_row _ _ 3 _ _ _ pc
  have kw0 : w4a.cell? ⟨gw, 0, none⟩ = some (.slice wa wn wk) := cell_of_row _ _ 0 _ _ _ pw
  have kw1 : w4a.cell? ⟨gw, 1, none⟩ = some (.int .i64 (l : Nat)) := cell_of_row _ _ 1 _ _ _ pw
  cases Ba with
  | false =>
    go_wp2_with fail
    go_ret
    exact ⟨rfl, bt⟩
  | true =>
  have HFa := Lib.hid (hBa rfl)
  clear hBa
  go_wp2_with fail
  refine (formula_any _ tb _ 3 (htb.mono bt) (by decide)).mono ?_
  rintro e w4b ⟨⟨Bb, rfl, hBb⟩, b4⟩
  clear ka0 ka1 ka2 ka3 kb0 kb1 kb2 kb3 kc0 kc1 kc2 kc3 kw0 kw1
  replace pa := (b4.block ga (Array.getElem?_eq_some_iff.1 pa).1).trans pa
  replace pb := (b4.block gb (Array.getElem?_eq_some_iff.1 pb).1).trans pb
  replace pc := (b4.block gc (Array.getElem?_eq_some_iff.1 pc).1).trans pc
  replace pw := (b4.block gw (Array.getElem?_eq_some_iff.1 pw).1).trans pw
  replace bt := below_then bt b4
  have ka0 : w4b.cell? ⟨ga, 0, none⟩ = some (.int .i64 oa) := cell_of_row _ _ 0 _ _ _ pa
  have ka1 : w4b.cell? ⟨ga, 1, none⟩ = some (.int .i64 na) := cell_of_row _ _ 1 _ _ _ pa
  have ka2 : w4b.cell? ⟨ga, 2, none⟩ = some (.int .i64 qa) := cell_of_row _ _ 2 _ _ _ pa
  have ka3 : w4b.cell? ⟨ga, 3, none⟩ = some (.slice aa la ca) := cell_of_row _ _ 3 _ _ _ pa
  have kb0 : w4b.cell? ⟨gb, 0, none⟩ = some (.int .i64 ob) := cell_of_row _ _ 0 _ _ _ pb
  have kb1 : w4b.cell? ⟨gb, 1, none⟩ = some (.int .i64 nb) := cell_of_row _ _ 1 _ _ _ pb
  have kb2 : w4b.cell? ⟨gb, 2, none⟩ = some (.int .i64 qb) := cell_of_row _ _ 2 _ _ _ pb
  have kb3 : w4b.cell? ⟨gb, 3, none⟩ = some (.slice ab lb cb) := cell_of_row _ _ 3 _ _ _ pb
  have kc0 : w4b.cell? ⟨gc, 0, none⟩ = some (.int .i64 oc) := cell_of_row _ _ 0 _ _ _ pc
  have kc1 : w4b.cell? ⟨gc, 1, none⟩ = some (.int .i64 nc) := cell_of_row _ _ 1 _ _ _ pc
  have kc2 : w4b.cell? ⟨gc, 2, none⟩ = some (.int .i64 qc) := cell_of_row _ _ 2 _ _ _ pc
  have kc3 : w4b.cell? ⟨gc, 3, none⟩ = some (.slice ac lc cc) := cell_of_row _ _ 3 _ _ _ pc
  have kw0 : w4b.cell? ⟨gw, 0, none⟩ = some (.slice wa wn wk) := cell_of_row _ _ 0 _ _ _ pw
  have kw1 : w4b.cell? ⟨gw, 1, none⟩ = some (.int .i64 (l : Nat)) := cell_of_row _ _ 1 _ _ _ pw
  cases Bb with
  | false =>
    go_wp2_with fail
    go_ret
    exact ⟨rfl, bt⟩
  | true =>
  have HFb := Lib.hid (hBb rfl)
  clear hBb
  go_wp2_with fail
  refine (formula_any _ tc _ 3 (htc.mono bt) (by decide)).mono ?_
  rintro e w4c ⟨⟨Bc, rfl, hBc⟩, b4⟩
  clear ka0 ka1 ka2 ka3 kb0 kb1 kb2 kb3 kc0 kc1 kc2 kc3 kw0 kw1
  replace pa := (b4.block ga (Array.getElem?_eq_some_iff.1 pa).1).trans pa
  replace pb := (b4.block gb (Array.getElem?_eq_some_iff.1 pb).1).trans pb
  replace pc := (b4.block gc (Array.getElem?_eq_some_iff.1 pc).1).trans pc
  replace pw := (b4.block gw (Array.getElem?_eq_some_iff.1 pw).1).trans pw
  replace bt := below_then bt b4
  have ka0 : w4c.cell? ⟨ga, 0, none⟩ = some (.int .i64 oa) := cell_of_row _ _ 0 _ _ _ pa
  have ka1 : w4c.cell? ⟨ga, 1, none⟩ = some (.int .i64 na) := cell_of_row _ _ 1 _ _ _ pa
  have ka2 : w4c.cell? ⟨ga, 2, none⟩ = some (.int .i64 qa) := cell_of_row _ _ 2 _ _ _ pa
  have ka3 : w4c.cell? ⟨ga, 3, none⟩ = some (.slice aa la ca) := cell_of_row _ _ 3 _ _ _ pa
  have kb0 : w4c.cell? ⟨gb, 0, none⟩ = some (.int .i64 ob) := cell_of_row _ _ 0 _ _ _ pb
  have kb1 : w4c.cell? ⟨gb, 1, none⟩ = some (.int .i64 nb) := cell_of_row _ _ 1 _ _ _ pb
  have kb2 : w4c.cell? ⟨gb, 2, none⟩ = some (.int .i64 qb) := cell_of_row _ _ 2 _ _ _ pb
  have kb3 : w4c.cell? ⟨gb, 3, none⟩ = some (.slice ab lb cb) := cell_of_row _ _ 3 _ _ _ pb
  have kc0 : w4c.cell? ⟨gc, 0, none⟩ = some (.int .i64 oc) := cell_of_row _ _ 0 _ _ _ pc
  have kc1 : w4c.cell? ⟨gc, 1, none⟩ = some (.int .i64 nc) := cell_of_row _ _ 1 _ _ _ pc
  have kc2 : w4c.cell? ⟨gc, 2, none⟩ = some (.int .i64 qc) := cell_of_row _ _ 2 _ _ _ pc
  have kc3 : w4c.cell? ⟨gc, 3, none⟩ = some (.slice ac lc cc) := cell_of_row _ _ 3 _ _ _ pc
  have kw0 : w4c.cell? ⟨gw, 0, none⟩ = some (.slice wa wn wk) := cell_of_row _ _ 0 _ _ _ pw
  have kw1 : w4c.cell? ⟨gw, 1, none⟩ = some (.int .i64 (l : Nat)) := cell_of_row _ _ 1 _ _ _ pw
  cases Bc with
  | false =>
    go_wp2_with fail
    go_ret
    exact ⟨rfl, bt⟩
  | true =>
  have HFc := Lib.hid (hBc rfl)
  clear hBc
  clear f1 f2
  have hwn : wn ≤ 10 := by omega
  go_wp2_with fail
  simp only [List.append_eq, List.cons_append, List.nil_append]
  have La : ∀ z, Below w4c.heap.size w4c z → (Instr.loadAt 24 (.pointer (some ⟨ga, 0, none⟩))).run Try.prog z = .ok (.agg #[.int .i64 oa, .int .i64 na, .int .i64 qa, .slice aa la ca]) z := fun z hz => by
    have jka0 := cell_next hz ka0
    have jka1 := cell_next hz ka1
    have jka2 := cell_next hz ka2
    have jka3 := cell_next hz ka3
    go_simp
  have Lb : ∀ z, Below w4c.heap.size w4c z → (Instr.loadAt 24 (.pointer (some ⟨gb, 0, none⟩))).run Try.prog z = .ok (.agg #[.int .i64 ob, .int .i64 nb, .int .i64 qb, .slice ab lb cb]) z := fun z hz => by
    have jkb0 := cell_next hz kb0
    have jkb1 := cell_next hz kb1
    have jkb2 := cell_next hz kb2
    have jkb3 := cell_next hz kb3
    go_simp
  have Lc : ∀ z, Below w4c.heap.size w4c z → (Instr.loadAt 24 (.pointer (some ⟨gc, 0, none⟩))).run Try.prog z = .ok (.agg #[.int .i64 oc, .int .i64 nc, .int .i64 qc, .slice ac lc cc]) z := fun z hz => by
    have jkc0 := cell_next hz kc0
    have jkc1 := cell_next hz kc1
    have jkc2 := cell_next hz kc2
    have jkc3 := cell_next hz kc3
    go_simp
  have Lw : ∀ z, Below w4c.heap.size w4c z → (Instr.loadAt 27 (.pointer (some ⟨gw, 0, none⟩))).run Try.prog z = .ok (.agg #[.slice wa wn wk, .int .i64 (l : Nat)]) z := fun z hz => by
    have jkw0 := cell_next hz kw0
    have jkw1 := cell_next hz kw1
    go_simp
  refine wp_region_rel 178 (by kernel_rfl) (by kernel_rfl) (fun s => Nat.blt s 51 && !Nat.beq s 2) [.val (.bool true), .val (.bool true), .val (.func (.func 19) #[] #[]), .tree ta, .tree tb, .tree (T.bin 17 ta tb), .tree (T.un 21 (T.bin 17 ta tb)), .val (.agg #[.slice wa wn wk, .int .i64 (l : Nat)]), .bools wn (hT wn l row (T.un 21 (T.bin 17 ta tb))), .val (.func (.func 19) #[] #[]), .tree ta, .tree (T.un 21 ta), .tree tb, .tree (T.un 21 tb), .tree (T.bin 17 (T.un 21 ta) (T.un 21 tb)), .val (.agg #[.slice wa wn wk, .int .i64 (l : Nat)]), .bools wn (hT wn l row (T.bin 17 (T.un 21 ta) (T.un 21 tb))), .val (.bool true), .val (.bool true), .val (.bool true), .val (.func (.func 20) #[] #[]), .tree ta, .tree tb, .tree (T.bin 16 ta tb), .tree (T.un 22 (T.bin 16 ta tb)), .val (.agg #[.slice wa wn wk, .int .i64 (l : Nat)]), .bools wn (hT wn l row (T.un 22 (T.bin 16 ta tb))), .val (.func (.func 20) #[] #[]), .tree ta, .tree (T.un 22 ta), .tree tb, .tree (T.un 22 tb), .tree (T.bin 16 (T.un 22 ta) (T.un 22 tb)), .val (.agg #[.slice wa wn wk, .int .i64 (l : Nat)]), .bools wn (hT wn l row (T.bin 16 (T.un 22 ta) (T.un 22 tb))), .val (.bool true), .val (.bool true), .val (.bool true), .val (.func (.func 21) #[] #[]), .val (.func (.func 19) #[] #[]), .tree ta, .tree tb, .tree (T.bin 17 ta tb), .tree (T.un 20 (T.bin 17 ta tb)), .val (.agg #[.slice wa wn wk, .int .i64 (l : Nat)]), .bools wn (hT wn l row (T.un 20 (T.bin 17 ta tb))), .val (.func (.func 19) #[] #[]), .val (.func (.func 21) #[] #[]), .tree ta, .tree (T.un 20 ta), .val (.func (.func 21) #[] #[]), .tree tb, .tree (T.un 20 tb), .tree (T.bin 17 (T.un 20 ta) (T.un 20 tb)), .val (.agg #[.slice wa wn wk, .int .i64 (l : Nat)]), .bools wn (hT wn l row (T.bin 17 (T.un 20 ta) (T.un 20 tb))), .val (.bool true), .val (.bool true), .val (.bool true), .val (.func (.func 21) #[] #[]), .val (.func (.func 20) #[] #[]), .tree ta, .tree tb, .tree (T.bin 16 ta tb), .tree (T.un 20 (T.bin 16 ta tb)), .val (.agg #[.slice wa wn wk, .int .i64 (l : Nat)]), .bools wn (hT wn l row (T.un 20 (T.bin 16 ta tb))), .val (.func (.func 20) #[] #[]), .val (.func (.func 21) #[] #[]), .tree ta, .tree (T.un 20 ta), .val (.func (.func 21) #[] #[]), .tree tb, .tree (T.un 20 tb), .tree (T.bin 16 (T.un 20 ta) (T.un 20 tb)), .val (.agg #[.slice wa wn wk, .int .i64 (l : Nat)]), .bools wn (hT wn l row (T.bin 16 (T.un 20 ta) (T.un 20 tb))), .val (.bool true), .val (.bool true), .val (.bool true), .val (.func (.func 22) #[] #[]), .tree ta, .val (.func (.func 19) #[] #[]), .tree tb, .tree tc, .tree (T.bin 17 tb tc), .tree (T.bin 23 ta (T.bin 17 tb tc)), .val (.agg #[.slice wa wn wk, .int .i64 (l : Nat)]), .bools wn (hT wn l row (T.bin 23 ta (T.bin 17 tb tc))), .val (.func (.func 19) #[] #[]), .val (.func (.func 22) #[] #[]), .tree ta, .tree tb, .tree (T.bin 23 ta tb), .val (.func (.func 22) #[] #[]), .tree ta, .tree tc, .tree (T.bin 23 ta tc), .tree (T.bin 17 (T.bin 23 ta tb) (T.bin 23 ta tc)), .val (.agg #[.slice wa wn wk, .int .i64 (l : Nat)]), .bools wn (hT wn l row (T.bin 17 (T.bin 23 ta tb) (T.bin 23 ta tc))), .val (.bool true), .val (.bool true), .val (.bool true), .val (.func (.func 22) #[] #[]), .val (.func (.func 20) #[] #[]), .tree ta, .tree tb, .tree (T.bin 16 ta tb), .tree tc, .tree (T.bin 23 (T.bin 16 ta tb) tc), .val (.agg #[.slice wa wn wk, .int .i64 (l : Nat)]), .bools wn (hT wn l row (T.bin 23 (T.bin 16 ta tb) tc)), .val (.func (.func 20) #[] #[]), .val (.func (.func 22) #[] #[]), .tree ta, .tree tc, .tree (T.bin 23 ta tc), .val (.func (.func 22) #[] #[]), .tree tb, .tree tc, .tree (T.bin 23 tb tc), .tree (T.bin 16 (T.bin 23 ta tc) (T.bin 23 tb tc)), .val (.agg #[.slice wa wn wk, .int .i64 (l : Nat)]), .bools wn (hT wn l row (T.bin 16 (T.bin 23 ta tc) (T.bin 23 tb tc))), .val (.bool true), .val (.bool true), .val (.bool true)] (by kernel_rfl) ?_ ?_
  · refine steps_cons (st_move rfl (fun u z hk hb hd => ⟨trivial, hk 7 rfl⟩)) ?_
    refine steps_cons (st_move rfl (fun u z hk hb hd => ⟨trivial, hd 0 rfl⟩)) ?_
    refine steps_cons (st_move rfl (fun u z hk hb hd => ⟨⟨rfl, hd 1 rfl⟩, hk 8 rfl⟩)) ?_
    refine steps_cons (st_load rfl (fun u z hk hb hd => ⟨⟨rfl, hd 1 rfl⟩, _, (congrArg (fun x => (Instr.loadAt 24 x).run Try.prog z) (hk 3 rfl)).trans (La z hb), (hta.mono (below_then bt hb))⟩)) ?_
    refine steps_cons (st_load rfl (fun u z hk hb hd => ⟨⟨rfl, hd 1 rfl⟩, _, (congrArg (fun x => (Instr.loadAt 24 x).run Try.prog z) (hk 4 rfl)).trans (Lb z hb), (htb.mono (below_then bt hb))⟩)) ?_
    refine steps_cons (st_call rfl 19 (enters_of Try.func19 (by kernel_rfl) rfl) (fun u z hk hb hd => ⟨⟨rfl, hd 1 rfl⟩, hd 2 rfl, clo_or z ta tb _ _ (hd 3 rfl) (hd 4 rfl)⟩)) ?_
    refine steps_cons (st_call rfl 14 (enters_of Try.func14 (by kernel_rfl) rfl) (fun u z hk hb hd => ⟨⟨rfl, hd 1 rfl⟩, rfl, one_any z 21 (T.bin 17 ta tb) _ (by decide) (hd 5 rfl)⟩)) ?_
    refine steps_cons (st_load rfl (fun u z hk hb hd => ⟨⟨rfl, hd 1 rfl⟩, _, (congrArg (fun x => (Instr.loadAt 27 x).run Try.prog z) (hk 6 rfl)).trans (Lw z hb), rfl⟩)) ?_
    refine steps_cons (st_call rfl 11 (enters_of Try.func11 (by kernel_rfl) rfl) (fun u z hk hb hd => ⟨⟨rfl, hd 1 rfl⟩, rfl, alls_rel (T.un 21 (T.bin 17 ta tb)) z _ _ wa wn wk l row (hd 6 rfl) (hd 7 rfl) (hr.mono (below_then bt hb)) ((HFa.out.two HFb.out (.inr (.inl rfl))).time (.inr (.inl rfl))) (by omega) hl⟩)) ?_
    refine steps_cons (st_move rfl (fun u z hk hb hd => ⟨⟨rfl, hd 1 rfl⟩, hk 8 rfl⟩)) ?_
    refine steps_cons (st_load rfl (fun u z hk hb hd => ⟨⟨rfl, hd 1 rfl⟩, _, (congrArg (fun x => (Instr.loadAt 24 x).run Try.prog z) (hk 3 rfl)).trans (La z hb), (hta.mono (below_then bt hb))⟩)) ?_
    refine steps_cons (st_call rfl 14 (enters_of Try.func14 (by kernel_rfl) rfl) (fun u z hk hb hd => ⟨⟨rfl, hd 1 rfl⟩, rfl, one_any z 21 ta _ (by decide) (hd 10 rfl)⟩)) ?_
    refine steps_cons (st_load rfl (fun u z hk hb hd => ⟨⟨rfl, hd 1 rfl⟩, _, (congrArg (fun x => (Instr.loadAt 24 x).run Try.prog z) (hk 4 rfl)).trans (Lb z hb), (htb.mono (below_then bt hb))⟩)) ?_
    refine steps_cons (st_call rfl 14 (enters_of Try.func14 (by kernel_rfl) rfl) (fun u z hk hb hd => ⟨⟨rfl, hd 1 rfl⟩, rfl, one_any z 21 tb _ (by decide) (hd 12 rfl)⟩)) ?_
    refine steps_cons (st_call rfl 19 (enters_of Try.func19 (by kernel_rfl) rfl) (fun u z hk hb hd => ⟨⟨rfl, hd 1 rfl⟩, hd 9 rfl, clo_or z (T.un 21 ta) (T.un 21 tb) _ _ (hd 11 rfl) (hd 13 rfl)⟩)) ?_
    refine steps_cons (st_load rfl (fun u z hk hb hd => ⟨⟨rfl, hd 1 rfl⟩, _, (congrArg (fun x => (Instr.loadAt 27 x).run Try.prog z) (hk 6 rfl)).trans (Lw z hb), rfl⟩)) ?_
    refine steps_cons (st_call rfl 11 (enters_of Try.func11 (by kernel_rfl) rfl) (fun u z hk hb hd => ⟨⟨rfl, hd 1 rfl⟩, rfl, alls_rel (T.bin 17 (T.un 21 ta) (T.un 21 tb)) z _ _ wa wn wk l row (hd 14 rfl) (hd 15 rfl) (hr.mono (below_then bt hb)) ((HFa.out.time (.inr (.inl rfl))).two (HFb.out.time (.inr (.inl rfl))) (.inr (.inl rfl))) (by omega) hl⟩)) ?_
    refine steps_cons (st_call rfl 23 (enters_of Try.func23 (by kernel_rfl) rfl) (fun u z hk hb hd => ⟨⟨rfl, hd 1 rfl⟩, rfl, same_rel z _ _ wn _ _ (by omega) (hd 8 rfl) (hd 16 rfl) (fun i => sp1 ..)⟩)) ?_
    refine steps_cons (st_pick rfl (fun u z hk hb hd => ⟨trivial, true, hd 1 rfl, hd 17 rfl⟩)) ?_
    refine steps_cons (st_move rfl (fun u z hk hb hd => ⟨trivial, hd 18 rfl⟩)) ?_
    refine steps_cons (st_move rfl (fun u z hk hb hd => ⟨⟨rfl, hd 19 rfl⟩, hk 9 rfl⟩)) ?_
    refine steps_cons (st_load rfl (fun u z hk hb hd => ⟨⟨rfl, hd 19 rfl⟩, _, (congrArg (fun x => (Instr.loadAt 24 x).run Try.prog z) (hk 3 rfl)).trans (La z hb), (hta.mono (below_then bt hb))⟩)) ?_
    refine steps_cons (st_load rfl (fun u z hk hb hd => ⟨⟨rfl, hd 19 rfl⟩, _, (congrArg (fun x => (Instr.loadAt 24 x).run Try.prog z) (hk 4 rfl)).trans (Lb z hb), (htb.mono (below_then bt hb))⟩)) ?_
    refine steps_cons (st_call rfl 20 (enters_of Try.func20 (by kernel_rfl) rfl) (fun u z hk hb hd => ⟨⟨rfl, hd 19 rfl⟩, hd 20 rfl, clo_and z ta tb _ _ (hd 21 rfl) (hd 22 rfl)⟩)) ?_
    refine steps_cons (st_call rfl 14 (enters_of Try.func14 (by kernel_rfl) rfl) (fun u z hk hb hd => ⟨⟨rfl, hd 19 rfl⟩, rfl, one_any z 22 (T.bin 16 ta tb) _ (by decide) (hd 23 rfl)⟩)) ?_
    refine steps_cons (st_load rfl (fun u z hk hb hd => ⟨⟨rfl, hd 19 rfl⟩, _, (congrArg (fun x => (Instr.loadAt 27 x).run Try.prog z) (hk 6 rfl)).trans (Lw z hb), rfl⟩)) ?_
    refine steps_cons (st_call rfl 11 (enters_of Try.func11 (by kernel_rfl) rfl) (fun u z hk hb hd => ⟨⟨rfl, hd 19 rfl⟩, rfl, alls_rel (T.un 22 (T.bin 16 ta tb)) z _ _ wa wn wk l row (hd 24 rfl) (hd 25 rfl) (hr.mono (below_then bt hb)) ((HFa.out.two HFb.out (.inl rfl)).time (.inr (.inr rfl))) (by omega) hl⟩)) ?_
    refine steps_cons (st_move rfl (fun u z hk hb hd => ⟨⟨rfl, hd 19 rfl⟩, hk 9 rfl⟩)) ?_
    refine steps_cons (st_load rfl (fun u z hk hb hd => ⟨⟨rfl, hd 19 rfl⟩, _, (congrArg (fun x => (Instr.loadAt 24 x).run Try.prog z) (hk 3 rfl)).trans (La z hb), (hta.mono (below_then bt hb))⟩)) ?_
    refine steps_cons (st_call rfl 14 (enters_of Try.func14 (by kernel_rfl) rfl) (fun u z hk hb hd => ⟨⟨rfl, hd 19 rfl⟩, rfl, one_any z 22 ta _ (by decide) (hd 28 rfl)⟩)) ?_
    refine steps_cons (st_load rfl (fun u z hk hb hd => ⟨⟨rfl, hd 19 rfl⟩, _, (congrArg (fun x => (Instr.loadAt 24 x).run Try.prog z) (hk 4 rfl)).trans (Lb z hb), (htb.mono (below_then bt hb))⟩)) ?_
    refine steps_cons (st_call rfl 14 (enters_of Try.func14 (by kernel_rfl) rfl) (fun u z hk hb hd => ⟨⟨rfl, hd 19 rfl⟩, rfl, one_any z 22 tb _ (by decide) (hd 30 rfl)⟩)) ?_
    refine steps_cons (st_call rfl 20 (enters_of Try.func20 (by kernel_rfl) rfl) (fun u z hk hb hd => ⟨⟨rfl, hd 19 rfl⟩, hd 27 rfl, clo_and z (T.un 22 ta) (T.un 22 tb) _ _ (hd 29 rfl) (hd 31 rfl)⟩)) ?_
    refine steps_cons (st_load rfl (fun u z hk hb hd => ⟨⟨rfl, hd 19 rfl⟩, _, (congrArg (fun x => (Instr.loadAt 27 x).run Try.prog z) (hk 6 rfl)).trans (Lw z hb), rfl⟩)) ?_
    refine steps_cons (st_call rfl 11 (enters_of Try.func11 (by kernel_rfl) rfl) (fun u z hk hb hd => ⟨⟨rfl, hd 19 rfl⟩, rfl, alls_rel (T.bin 16 (T.un 22 ta) (T.un 22 tb)) z _ _ wa wn wk l row (hd 32 rfl) (hd 33 rfl) (hr.mono (below_then bt hb)) ((HFa.out.time (.inr (.inr rfl))).two (HFb.out.time (.inr (.inr rfl))) (.inl rfl)) (by omega) hl⟩)) ?_
    refine steps_cons (st_call rfl 23 (enters_of Try.func23 (by kernel_rfl) rfl) (fun u z hk hb hd => ⟨⟨rfl, hd 19 rfl⟩, rfl, same_rel z _ _ wn _ _ (by omega) (hd 26 rfl) (hd 34 rfl) (fun i => sp2 ..)⟩)) ?_
    refine steps_cons (st_pick rfl (fun u z hk hb hd => ⟨trivial, true, hd 19 rfl, hd 35 rfl⟩)) ?_
    refine steps_cons (st_move rfl (fun u z hk hb hd => ⟨trivial, hd 36 rfl⟩)) ?_
    refine steps_cons (st_move rfl (fun u z hk hb hd => ⟨⟨rfl, hd 37 rfl⟩, hk 10 rfl⟩)) ?_
    refine steps_cons (st_move rfl (fun u z hk hb hd => ⟨⟨rfl, hd 37 rfl⟩, hk 8 rfl⟩)) ?_
    refine steps_cons (st_load rfl (fun u z hk hb hd => ⟨⟨rfl, hd 37 rfl⟩, _, (congrArg (fun x => (Instr.loadAt 24 x).run Try.prog z) (hk 3 rfl)).trans (La z hb), (hta.mono (below_then bt hb))⟩)) ?_
    refine steps_cons (st_load rfl (fun u z hk hb hd => ⟨⟨rfl, hd 37 rfl⟩, _, (congrArg (fun x => (Instr.loadAt 24 x).run Try.prog z) (hk 4 rfl)).trans (Lb z hb), (htb.mono (below_then bt hb))⟩)) ?_
    refine steps_cons (st_call rfl 19 (enters_of Try.func19 (by kernel_rfl) rfl) (fun u z hk hb hd => ⟨⟨rfl, hd 37 rfl⟩, hd 39 rfl, clo_or z ta tb _ _ (hd 40 rfl) (hd 41 rfl)⟩)) ?_
    refine steps_cons (st_call rfl 21 (enters_of Try.func21 (by kernel_rfl) rfl) (fun u z hk hb hd => ⟨⟨rfl, hd 37 rfl⟩, hd 38 rfl, clo_next z (T.bin 17 ta tb) _ (hd 42 rfl)⟩)) ?_
    refine steps_cons (st_load rfl (fun u z hk hb hd => ⟨⟨rfl, hd 37 rfl⟩, _, (congrArg (fun x => (Instr.loadAt 27 x).run Try.prog z) (hk 6 rfl)).trans (Lw z hb), rfl⟩)) ?_
    refine steps_cons (st_call rfl 11 (enters_of Try.func11 (by kernel_rfl) rfl) (fun u z hk hb hd => ⟨⟨rfl, hd 37 rfl⟩, rfl, alls_rel (T.un 20 (T.bin 17 ta tb)) z _ _ wa wn wk l row (hd 43 rfl) (hd 44 rfl) (hr.mono (below_then bt hb)) ((HFa.out.two HFb.out (.inr (.inl rfl))).time (.inl rfl)) (by omega) hl⟩)) ?_
    refine steps_cons (st_move rfl (fun u z hk hb hd => ⟨⟨rfl, hd 37 rfl⟩, hk 8 rfl⟩)) ?_
    refine steps_cons (st_move rfl (fun u z hk hb hd => ⟨⟨rfl, hd 37 rfl⟩, hk 10 rfl⟩)) ?_
    refine steps_cons (st_load rfl (fun u z hk hb hd => ⟨⟨rfl, hd 37 rfl⟩, _, (congrArg (fun x => (Instr.loadAt 24 x).run Try.prog z) (hk 3 rfl)).trans (La z hb), (hta.mono (below_then bt hb))⟩)) ?_
    refine steps_cons (st_call rfl 21 (enters_of Try.func21 (by kernel_rfl) rfl) (fun u z hk hb hd => ⟨⟨rfl, hd 37 rfl⟩, hd 47 rfl, clo_next z ta _ (hd 48 rfl)⟩)) ?_
    refine steps_cons (st_move rfl (fun u z hk hb hd => ⟨⟨rfl, hd 37 rfl⟩, hk 10 rfl⟩)) ?_
    refine steps_cons (st_load rfl (fun u z hk hb hd => ⟨⟨rfl, hd 37 rfl⟩, _, (congrArg (fun x => (Instr.loadAt 24 x).run Try.prog z) (hk 4 rfl)).trans (Lb z hb), (htb.mono (below_then bt hb))⟩)) ?_
    refine steps_cons (st_call rfl 21 (enters_of Try.func21 (by kernel_rfl) rfl) (fun u z hk hb hd => ⟨⟨rfl, hd 37 rfl⟩, hd 50 rfl, clo_next z tb _ (hd 51 rfl)⟩)) ?_
    refine steps_cons (st_call rfl 19 (enters_of Try.func19 (by kernel_rfl) rfl) (fun u z hk hb hd => ⟨⟨rfl, hd 37 rfl⟩, hd 46 rfl, clo_or z (T.un 20 ta) (T.un 20 tb) _ _ (hd 49 rfl) (hd 52 rfl)⟩)) ?_
    refine steps_cons (st_load rfl (fun u z hk hb hd => ⟨⟨rfl, hd 37 rfl⟩, _, (congrArg (fun x => (Instr.loadAt 27 x).run Try.prog z) (hk 6 rfl)).trans (Lw z hb), rfl⟩)) ?_
    refine steps_cons (st_call rfl 11 (enters_of Try.func11 (by kernel_rfl) rfl) (fun u z hk hb hd => ⟨⟨rfl, hd 37 rfl⟩, rfl, alls_rel (T.bin 17 (T.un 20 ta) (T.un 20 tb)) z _ _ wa wn wk l row (hd 53 rfl) (hd 54 rfl) (hr.mono (below_then bt hb)) ((HFa.out.time (.inl rfl)).two (HFb.out.time (.inl rfl)) (.inr (.inl rfl))) (by omega) hl⟩)) ?_
    refine steps_cons (st_call rfl 23 (enters_of Try.func23 (by kernel_rfl) rfl) (fun u z hk hb hd => ⟨⟨rfl, hd 37 rfl⟩, rfl, same_rel z _ _ wn _ _ (by omega) (hd 45 rfl) (hd 55 rfl) (fun i => sp3 ..)⟩)) ?_
    refine steps_cons (st_pick rfl (fun u z hk hb hd => ⟨trivial, true, hd 37 rfl, hd 56 rfl⟩)) ?_
    refine steps_cons (st_move rfl (fun u z hk hb hd => ⟨trivial, hd 57 rfl⟩)) ?_
    refine steps_cons (st_move rfl (fun u z hk hb hd => ⟨⟨rfl, hd 58 rfl⟩, hk 10 rfl⟩)) ?_
    refine steps_cons (st_move rfl (fun u z hk hb hd => ⟨⟨rfl, hd 58 rfl⟩, hk 9 rfl⟩)) ?_
    refine steps_cons (st_load rfl (fun u z hk hb hd => ⟨⟨rfl, hd 58 rfl⟩, _, (congrArg (fun x => (Instr.loadAt 24 x).run Try.prog z) (hk 3 rfl)).trans (La z hb), (hta.mono (below_then bt hb))⟩)) ?_
    refine steps_cons (st_load rfl (fun u z hk hb hd => ⟨⟨rfl, hd 58 rfl⟩, _, (congrArg (fun x => (Instr.loadAt 24 x).run Try.prog z) (hk 4 rfl)).trans (Lb z hb), (htb.mono (below_then bt hb))⟩)) ?_
    refine steps_cons (st_call rfl 20 (enters_of Try.func20 (by kernel_rfl) rfl) (fun u z hk hb hd => ⟨⟨rfl, hd 58 rfl⟩, hd 60 rfl, clo_and z ta tb _ _ (hd 61 rfl) (hd 62 rfl)⟩)) ?_
    refine steps_cons (st_call rfl 21 (enters_of Try.func21 (by kernel_rfl) rfl) (fun u z hk hb hd => ⟨⟨rfl, hd 58 rfl⟩, hd 59 rfl, clo_next z (T.bin 16 ta tb) _ (hd 63 rfl)⟩)) ?_
    refine steps_cons (st_load rfl (fun u z hk hb hd => ⟨⟨rfl, hd 58 rfl⟩, _, (congrArg (fun x => (Instr.loadAt 27 x).run Try.prog z) (hk 6 rfl)).trans (Lw z hb), rfl⟩)) ?_
    refine steps_cons (st_call rfl 11 (enters_of Try.func11 (by kernel_rfl) rfl) (fun u z hk hb hd => ⟨⟨rfl, hd 58 rfl⟩, rfl, alls_rel (T.un 20 (T.bin 16 ta tb)) z _ _ wa wn wk l row (hd 64 rfl) (hd 65 rfl) (hr.mono (below_then bt hb)) ((HFa.out.two HFb.out (.inl rfl)).time (.inl rfl)) (by omega) hl⟩)) ?_
    refine steps_cons (st_move rfl (fun u z hk hb hd => ⟨⟨rfl, hd 58 rfl⟩, hk 9 rfl⟩)) ?_
    refine steps_cons (st_move rfl (fun u z hk hb hd => ⟨⟨rfl, hd 58 rfl⟩, hk 10 rfl⟩)) ?_
    refine steps_cons (st_load rfl (fun u z hk hb hd => ⟨⟨rfl, hd 58 rfl⟩, _, (congrArg (fun x => (Instr.loadAt 24 x).run Try.prog z) (hk 3 rfl)).trans (La z hb), (hta.mono (below_then bt hb))⟩)) ?_
    refine steps_cons (st_call rfl 21 (enters_of Try.func21 (by kernel_rfl) rfl) (fun u z hk hb hd => ⟨⟨rfl, hd 58 rfl⟩, hd 68 rfl, clo_next z ta _ (hd 69 rfl)⟩)) ?_
    refine steps_cons (st_move rfl (fun u z hk hb hd => ⟨⟨rfl, hd 58 rfl⟩, hk 10 rfl⟩)) ?_
    refine steps_cons (st_load rfl (fun u z hk hb hd => ⟨⟨rfl, hd 58 rfl⟩, _, (congrArg (fun x => (Instr.loadAt 24 x).run Try.prog z) (hk 4 rfl)).trans (Lb z hb), (htb.mono (below_then bt hb))⟩)) ?_
    refine steps_cons (st_call rfl 21 (enters_of Try.func21 (by kernel_rfl) rfl) (fun u z hk hb hd => ⟨⟨rfl, hd 58 rfl⟩, hd 71 rfl, clo_next z tb _ (hd 72 rfl)⟩)) ?_
    refine steps_cons (st_call rfl 20 (enters_of Try.func20 (by kernel_rfl) rfl) (fun u z hk hb hd => ⟨⟨rfl, hd 58 rfl⟩, hd 67 rfl, clo_and z (T.un 20 ta) (T.un 20 tb) _ _ (hd 70 rfl) (hd 73 rfl)⟩)) ?_
    refine steps_cons (st_load rfl (fun u z hk hb hd => ⟨⟨rfl, hd 58 rfl⟩, _, (congrArg (fun x => (Instr.loadAt 27 x).run Try.prog z) (hk 6 rfl)).trans (Lw z hb), rfl⟩)) ?_
    refine steps_cons (st_call rfl 11 (enters_of Try.func11 (by kernel_rfl) rfl) (fun u z hk hb hd => ⟨⟨rfl, hd 58 rfl⟩, rfl, alls_rel (T.bin 16 (T.un 20 ta) (T.un 20 tb)) z _ _ wa wn wk l row (hd 74 rfl) (hd 75 rfl) (hr.mono (below_then bt hb)) ((HFa.out.time (.inl rfl)).two (HFb.out.time (.inl rfl)) (.inl rfl)) (by omega) hl⟩)) ?_
    refine steps_cons (st_call rfl 23 (enters_of Try.func23 (by kernel_rfl) rfl) (fun u z hk hb hd => ⟨⟨rfl, hd 58 rfl⟩, rfl, same_rel z _ _ wn _ _ (by omega) (hd 66 rfl) (hd 76 rfl) (fun i => sp4 ..)⟩)) ?_
    refine steps_cons (st_pick rfl (fun u z hk hb hd => ⟨trivial, true, hd 58 rfl, hd 77 rfl⟩)) ?_
    refine steps_cons (st_move rfl (fun u z hk hb hd => ⟨trivial, hd 78 rfl⟩)) ?_
    refine steps_cons (st_move rfl (fun u z hk hb hd => ⟨⟨rfl, hd 79 rfl⟩, hk 11 rfl⟩)) ?_
    refine steps_cons (st_load rfl (fun u z hk hb hd => ⟨⟨rfl, hd 79 rfl⟩, _, (congrArg (fun x => (Instr.loadAt 24 x).run Try.prog z) (hk 3 rfl)).trans (La z hb), (hta.mono (below_then bt hb))⟩)) ?_
    refine steps_cons (st_move rfl (fun u z hk hb hd => ⟨⟨rfl, hd 79 rfl⟩, hk 8 rfl⟩)) ?_
    refine steps_cons (st_load rfl (fun u z hk hb hd => ⟨⟨rfl, hd 79 rfl⟩, _, (congrArg (fun x => (Instr.loadAt 24 x).run Try.prog z) (hk 4 rfl)).trans (Lb z hb), (htb.mono (below_then bt hb))⟩)) ?_
    refine steps_cons (st_load rfl (fun u z hk hb hd => ⟨⟨rfl, hd 79 rfl⟩, _, (congrArg (fun x => (Instr.loadAt 24 x).run Try.prog z) (hk 5 rfl)).trans (Lc z hb), (htc.mono (below_then bt hb))⟩)) ?_
    refine steps_cons (st_call rfl 19 (enters_of Try.func19 (by kernel_rfl) rfl) (fun u z hk hb hd => ⟨⟨rfl, hd 79 rfl⟩, hd 82 rfl, clo_or z tb tc _ _ (hd 83 rfl) (hd 84 rfl)⟩)) ?_
    refine steps_cons (st_call rfl 22 (enters_of Try.func22 (by kernel_rfl) rfl) (fun u z hk hb hd => ⟨⟨rfl, hd 79 rfl⟩, hd 80 rfl, clo_until z ta (T.bin 17 tb tc) _ _ (hd 81 rfl) (hd 85 rfl)⟩)) ?_
    refine steps_cons (st_load rfl (fun u z hk hb hd => ⟨⟨rfl, hd 79 rfl⟩, _, (congrArg (fun x => (Instr.loadAt 27 x).run Try.prog z) (hk 6 rfl)).trans (Lw z hb), rfl⟩)) ?_
    refine steps_cons (st_call rfl 11 (enters_of Try.func11 (by kernel_rfl) rfl) (fun u z hk hb hd => ⟨⟨rfl, hd 79 rfl⟩, rfl, alls_rel (T.bin 23 ta (T.bin 17 tb tc)) z _ _ wa wn wk l row (hd 86 rfl) (hd 87 rfl) (hr.mono (below_then bt hb)) (HFa.out.two (HFb.out.two HFc.out (.inr (.inl rfl))) (.inr (.inr (.inl rfl)))) (by omega) hl⟩)) ?_
    refine steps_cons (st_move rfl (fun u z hk hb hd => ⟨⟨rfl, hd 79 rfl⟩, hk 8 rfl⟩)) ?_
    refine steps_cons (st_move rfl (fun u z hk hb hd => ⟨⟨rfl, hd 79 rfl⟩, hk 11 rfl⟩)) ?_
    refine steps_cons (st_load rfl (fun u z hk hb hd => ⟨⟨rfl, hd 79 rfl⟩, _, (congrArg (fun x => (Instr.loadAt 24 x).run Try.prog z) (hk 3 rfl)).trans (La z hb), (hta.mono (below_then bt hb))⟩)) ?_
    refine steps_cons (st_load rfl (fun u z hk hb hd => ⟨⟨rfl, hd 79 rfl⟩, _, (congrArg (fun x => (Instr.loadAt 24 x).run Try.prog z) (hk 4 rfl)).trans (Lb z hb), (htb.mono (below_then bt hb))⟩)) ?_
    refine steps_cons (st_call rfl 22 (enters_of Try.func22 (by kernel_rfl) rfl) (fun u z hk hb hd => ⟨⟨rfl, hd 79 rfl⟩, hd 90 rfl, clo_until z ta tb _ _ (hd 91 rfl) (hd 92 rfl)⟩)) ?_
    refine steps_cons (st_move rfl (fun u z hk hb hd => ⟨⟨rfl, hd 79 rfl⟩, hk 11 rfl⟩)) ?_
    refine steps_cons (st_load rfl (fun u z hk hb hd => ⟨⟨rfl, hd 79 rfl⟩, _, (congrArg (fun x => (Instr.loadAt 24 x).run Try.prog z) (hk 3 rfl)).trans (La z hb), (hta.mono (below_then bt hb))⟩)) ?_
    refine steps_cons (st_load rfl (fun u z hk hb hd => ⟨⟨rfl, hd 79 rfl⟩, _, (congrArg (fun x => (Instr.loadAt 24 x).run Try.prog z) (hk 5 rfl)).trans (Lc z hb), (htc.mono (below_then bt hb))⟩)) ?_
    refine steps_cons (st_call rfl 22 (enters_of Try.func22 (by kernel_rfl) rfl) (fun u z hk hb hd => ⟨⟨rfl, hd 79 rfl⟩, hd 94 rfl, clo_until z ta tc _ _ (hd 95 rfl) (hd 96 rfl)⟩)) ?_
    refine steps_cons (st_call rfl 19 (enters_of Try.func19 (by kernel_rfl) rfl) (fun u z hk hb hd => ⟨⟨rfl, hd 79 rfl⟩, hd 89 rfl, clo_or z (T.bin 23 ta tb) (T.bin 23 ta tc) _ _ (hd 93 rfl) (hd 97 rfl)⟩)) ?_
    refine steps_cons (st_load rfl (fun u z hk hb hd => ⟨⟨rfl, hd 79 rfl⟩, _, (congrArg (fun x => (Instr.loadAt 27 x).run Try.prog z) (hk 6 rfl)).trans (Lw z hb), rfl⟩)) ?_
    refine steps_cons (st_call rfl 11 (enters_of Try.func11 (by kernel_rfl) rfl) (fun u z hk hb hd => ⟨⟨rfl, hd 79 rfl⟩, rfl, alls_rel (T.bin 17 (T.bin 23 ta tb) (T.bin 23 ta tc)) z _ _ wa wn wk l row (hd 98 rfl) (hd 99 rfl) (hr.mono (below_then bt hb)) ((HFa.out.two HFb.out (.inr (.inr (.inl rfl)))).two (HFa.out.two HFc.out (.inr (.inr (.inl rfl)))) (.inr (.inl rfl))) (by omega) hl⟩)) ?_
    refine steps_cons (st_call rfl 23 (enters_of Try.func23 (by kernel_rfl) rfl) (fun u z hk hb hd => ⟨⟨rfl, hd 79 rfl⟩, rfl, same_rel z _ _ wn _ _ (by omega) (hd 88 rfl) (hd 100 rfl) (fun i => sp5 ..)⟩)) ?_
    refine steps_cons (st_pick rfl (fun u z hk hb hd => ⟨trivial, true, hd 79 rfl, hd 101 rfl⟩)) ?_
    refine steps_cons (st_move rfl (fun u z hk hb hd => ⟨trivial, hd 102 rfl⟩)) ?_
    refine steps_cons (st_move rfl (fun u z hk hb hd => ⟨⟨rfl, hd 103 rfl⟩, hk 11 rfl⟩)) ?_
    refine steps_cons (st_move rfl (fun u z hk hb hd => ⟨⟨rfl, hd 103 rfl⟩, hk 9 rfl⟩)) ?_
    refine steps_cons (st_load rfl (fun u z hk hb hd => ⟨⟨rfl, hd 103 rfl⟩, _, (congrArg (fun x => (Instr.loadAt 24 x).run Try.prog z) (hk 3 rfl)).trans (La z hb), (hta.mono (below_then bt hb))⟩)) ?_
    refine steps_cons (st_load rfl (fun u z hk hb hd => ⟨⟨rfl, hd 103 rfl⟩, _, (congrArg (fun x => (Instr.loadAt 24 x).run Try.prog z) (hk 4 rfl)).trans (Lb z hb), (htb.mono (below_then bt hb))⟩)) ?_
    refine steps_cons (st_call rfl 20 (enters_of Try.func20 (by kernel_rfl) rfl) (fun u z hk hb hd => ⟨⟨rfl, hd 103 rfl⟩, hd 105 rfl, clo_and z ta tb _ _ (hd 106 rfl) (hd 107 rfl)⟩)) ?_
    refine steps_cons (st_load rfl (fun u z hk hb hd => ⟨⟨rfl, hd 103 rfl⟩, _, (congrArg (fun x => (Instr.loadAt 24 x).run Try.prog z) (hk 5 rfl)).trans (Lc z hb), (htc.mono (below_then bt hb))⟩)) ?_
    refine steps_cons (st_call rfl 22 (enters_of Try.func22 (by kernel_rfl) rfl) (fun u z hk hb hd => ⟨⟨rfl, hd 103 rfl⟩, hd 104 rfl, clo_until z (T.bin 16 ta tb) tc _ _ (hd 108 rfl) (hd 109 rfl)⟩)) ?_
    refine steps_cons (st_load rfl (fun u z hk hb hd => ⟨⟨rfl, hd 103 rfl⟩, _, (congrArg (fun x => (Instr.loadAt 27 x).run Try.prog z) (hk 6 rfl)).trans (Lw z hb), rfl⟩)) ?_
    refine steps_cons (st_call rfl 11 (enters_of Try.func11 (by kernel_rfl) rfl) (fun u z hk hb hd => ⟨⟨rfl, hd 103 rfl⟩, rfl, alls_rel (T.bin 23 (T.bin 16 ta tb) tc) z _ _ wa wn wk l row (hd 110 rfl) (hd 111 rfl) (hr.mono (below_then bt hb)) ((HFa.out.two HFb.out (.inl rfl)).two HFc.out (.inr (.inr (.inl rfl)))) (by omega) hl⟩)) ?_
    refine steps_cons (st_move rfl (fun u z hk hb hd => ⟨⟨rfl, hd 103 rfl⟩, hk 9 rfl⟩)) ?_
    refine steps_cons (st_move rfl (fun u z hk hb hd => ⟨⟨rfl, hd 103 rfl⟩, hk 11 rfl⟩)) ?_
    refine steps_cons (st_load rfl (fun u z hk hb hd => ⟨⟨rfl, hd 103 rfl⟩, _, (congrArg (fun x => (Instr.loadAt 24 x).run Try.prog z) (hk 3 rfl)).trans (La z hb), (hta.mono (below_then bt hb))⟩)) ?_
    refine steps_cons (st_load rfl (fun u z hk hb hd => ⟨⟨rfl, hd 103 rfl⟩, _, (congrArg (fun x => (Instr.loadAt 24 x).run Try.prog z) (hk 5 rfl)).trans (Lc z hb), (htc.mono (below_then bt hb))⟩)) ?_
    refine steps_cons (st_call rfl 22 (enters_of Try.func22 (by kernel_rfl) rfl) (fun u z hk hb hd => ⟨⟨rfl, hd 103 rfl⟩, hd 114 rfl, clo_until z ta tc _ _ (hd 115 rfl) (hd 116 rfl)⟩)) ?_
    refine steps_cons (st_move rfl (fun u z hk hb hd => ⟨⟨rfl, hd 103 rfl⟩, hk 11 rfl⟩)) ?_
    refine steps_cons (st_load rfl (fun u z hk hb hd => ⟨⟨rfl, hd 103 rfl⟩, _, (congrArg (fun x => (Instr.loadAt 24 x).run Try.prog z) (hk 4 rfl)).trans (Lb z hb), (htb.mono (below_then bt hb))⟩)) ?_
    refine steps_cons (st_load rfl (fun u z hk hb hd => ⟨⟨rfl, hd 103 rfl⟩, _, (congrArg (fun x => (Instr.loadAt 24 x).run Try.prog z) (hk 5 rfl)).trans (Lc z hb), (htc.mono (below_then bt hb))⟩)) ?_
    refine steps_cons (st_call rfl 22 (enters_of Try.func22 (by kernel_rfl) rfl) (fun u z hk hb hd => ⟨⟨rfl, hd 103 rfl⟩, hd 118 rfl, clo_until z tb tc _ _ (hd 119 rfl) (hd 120 rfl)⟩)) ?_
    refine steps_cons (st_call rfl 20 (enters_of Try.func20 (by kernel_rfl) rfl) (fun u z hk hb hd => ⟨⟨rfl, hd 103 rfl⟩, hd 113 rfl, clo_and z (T.bin 23 ta tc) (T.bin 23 tb tc) _ _ (hd 117 rfl) (hd 121 rfl)⟩)) ?_
    refine steps_cons (st_load rfl (fun u z hk hb hd => ⟨⟨rfl, hd 103 rfl⟩, _, (congrArg (fun x => (Instr.loadAt 27 x).run Try.prog z) (hk 6 rfl)).trans (Lw z hb), rfl⟩)) ?_
    refine steps_cons (st_call rfl 11 (enters_of Try.func11 (by kernel_rfl) rfl) (fun u z hk hb hd => ⟨⟨rfl, hd 103 rfl⟩, rfl, alls_rel (T.bin 16 (T.bin 23 ta tc) (T.bin 23 tb tc)) z _ _ wa wn wk l row (hd 122 rfl) (hd 123 rfl) (hr.mono (below_then bt hb)) ((HFa.out.two HFc.out (.inr (.inr (.inl rfl)))).two (HFb.out.two HFc.out (.inr (.inr (.inl rfl)))) (.inl rfl)) (by omega) hl⟩)) ?_
    refine steps_cons (st_call rfl 23 (enters_of Try.func23 (by kernel_rfl) rfl) (fun u z hk hb hd => ⟨⟨rfl, hd 103 rfl⟩, rfl, same_rel z _ _ wn _ _ (by omega) (hd 112 rfl) (hd 124 rfl) (fun i => sp6 ..)⟩)) ?_
    refine steps_cons (st_pick rfl (fun u z hk hb hd => ⟨trivial, true, hd 103 rfl, hd 125 rfl⟩)) ?_
    refine steps_cons (st_assign rfl (fun u z hk hb hd => ⟨trivial, hd 126 rfl⟩)) ?_
    exact steps_nil rfl
  · intro u z hk hb hr
    have h2 : u 2 = .bool true := hr 127 rfl
    have hfr : frameOf 178 [] u = ⟨#[u 0, u 1, u 2, u 3, u 4, u 5, u 6, u 7, u 8, u 9, u 10, u 11, u 12, u 13, u 14, u 15, u 16, u 17, u 18, u 19, u 20, u 21, u 22, u 23, u 24, u 25, u 26, u 27, u 28, u 29, u 30, u 31, u 32, u 33, u 34, u 35, u 36, u 37, u 38, u 39, u 40, u 41, u 42, u 43, u 44, u 45, u 46, u 47, u 48, u 49, u 50, u 51, u 52, u 53, u 54, u 55, u 56, u 57, u 58, u 59, u 60, u 61, u 62, u 63, u 64, u 65, u 66, u 67, u 68, u 69, u 70, u 71, u 72, u 73, u 74, u 75, u 76, u 77, u 78, u 79, u 80, u 81, u 82, u 83, u 84, u 85, u 86, u 87, u 88, u 89, u 90, u 91, u 92, u 93, u 94, u 95, u 96, u 97, u 98, u 99, u 100, u 101, u 102, u 103, u 104, u 105, u 106, u 107, u 108, u 109, u 110, u 111, u 112, u 113, u 114, u 115, u 116, u 117, u 118, u 119, u 120, u 121, u 122, u 123, u 124, u 125, u 126, u 127, u 128, u 129, u 130, u 131, u 132, u 133, u 134, u 135, u 136, u 137, u 138, u 139, u 140, u 141, u 142, u 143, u 144, u 145, u 146, u 147, u 148, u 149, u 150, u 151, u 152, u 153, u 154, u 155, u 156, u 157, u 158, u 159, u 160, u 161, u 162, u 163, u 164, u 165, u 166, u 167, u 168, u 169, u 170, u 171, u 172, u 173, u 174, u 175, u 176, u 177], []⟩ := rfl
    rw [hfr, h2]
    go_wp2_with fail
    go_ret
    exact ⟨rfl, below_then bt hb⟩
end Go.Proofs.Ytogdfjcgcdbnaaa
