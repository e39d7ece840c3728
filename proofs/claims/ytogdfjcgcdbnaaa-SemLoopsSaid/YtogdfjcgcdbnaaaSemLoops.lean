/- SemLoops returns true (by gen17o.py). -/
import Derived.Test.YtogdfjcgcdbnaaaSemH
import Derived.Test.YtogdfjcgcdbnaaaSemLoopsP
import Derived.Test.YtogdfjcgcdbnaaaTreesR
namespace Go.Proofs.Ytogdfjcgcdbnaaa
open Go.RowKit
set_option linter.unusedVariables false
set_option linter.unusedSimpArgs false
theorem holds_is (w : World) (t : T) (v : Value) (wa : Option Addr) (wn wk l : Nat) (row : Nat → List Int) (X : Bool) (ht : TreeAt w t v) (hr : WordAt w wa wn row) (hf : FmP t) (hwn : wn ≤ 1000000) (hl : l < wn) (hX : hT wn l row t 0 = X) :
    Calls Try.prog 16 #[v, .agg #[.slice wa wn wk, .int .i64 (l : Nat)]] w fun e w' => e = .returned (.bool X) ∧ Below w.heap.size w w' := by
  have h := holds_any w t v wa wn wk l row ht hr hf hwn hl
  rw [hX] at h
  exact h
set_option maxRecDepth 100000 in
set_option maxHeartbeats 8000000 in
theorem semloops_any (w : World) (ta : T) (va : Value) (wa : Option Addr) (wn wk : Nat) (row : Nat → List Int) (hta : TreeAt w ta va) (hr : WordAt w wa wn row) (hnb : wn ≤ 9223372036854775807) :
    Calls Try.prog 5 #[va, .slice wa wn wk] w fun e w' => e = .returned (.bool true) ∧ Below w.heap.size w w' := by
  obtain ⟨oa, na, qa, aa, la, ca, rfl⟩ := hta.shape
  have pa : (w.alloc (.cells #[.int .i64 oa, .int .i64 na, .int .i64 qa, .slice aa la ca] 24)).heap[w.heap.size]? = some (.cells #[.int .i64 oa, .int .i64 na, .int .i64 qa, .slice aa la ca] 24 (0, 0)) := heap_alloc_new _ _
  have bt : Below w.heap.size w (w.alloc (.cells #[.int .i64 oa, .int .i64 na, .int .i64 qa, .slice aa la ca] 24)) := (Below.refl _ _).alloc (Nat.le_refl _) _
  go_enter Try.func5, Try.ntmps5
  go_upto_region 1 with fail
  obtain ⟨v, hv⟩ : ∃ v, w.alloc (.cells #[.int .i64 oa, .int .i64 na, .int .i64 qa, .slice aa la ca] 24) = v := ⟨_, rfl⟩
  rw [hv] at pa bt ⊢
  obtain ⟨ga, hga⟩ : ∃ g, w.heap.size = g := ⟨_, rfl⟩
  rw [hga] at pa ⊢
  clear hga hv
  have ca0 : v.cell? ⟨ga, 0, none⟩ = some (.int .i64 oa) := cell_of_row _ _ 0 _ _ _ pa
  have ca1 : v.cell? ⟨ga, 1, none⟩ = some (.int .i64 na) := cell_of_row _ _ 1 _ _ _ pa
  have ca2 : v.cell? ⟨ga, 2, none⟩ = some (.int .i64 qa) := cell_of_row _ _ 2 _ _ _ pa
  have ca3 : v.cell? ⟨ga, 3, none⟩ = some (.slice aa la ca) := cell_of_row _ _ 3 _ _ _ pa
  go_wp2_with fail
  refine (shown_any _).mono ?_
  rintro e w1 ⟨rfl, b1⟩
  clear ca0 ca1 ca2 ca3
  replace pa := (b1.block ga (Array.getElem?_eq_some_iff.1 pa).1).trans pa
  replace bt := below_then bt b1
  have ca0 : w1.cell? ⟨ga, 0, none⟩ = some (.int .i64 oa) := cell_of_row _ _ 0 _ _ _ pa
  have ca1 : w1.cell? ⟨ga, 1, none⟩ = some (.int .i64 na) := cell_of_row _ _ 1 _ _ _ pa
  have ca2 : w1.cell? ⟨ga, 2, none⟩ = some (.int .i64 qa) := cell_of_row _ _ 2 _ _ _ pa
  have ca3 : w1.cell? ⟨ga, 3, none⟩ = some (.slice aa la ca) := cell_of_row _ _ 3 _ _ _ pa
  have pw : (w1.alloc (.cells #[.slice wa wn wk, .int .i64 ((wn : Int) - 1)] 27)).heap[w1.heap.size]? = some (.cells #[.slice wa wn wk, .int .i64 ((wn : Int) - 1)] 27 (0, 0)) := heap_alloc_new _ _
  have b2 : Below w1.heap.size w1 (w1.alloc (.cells #[.slice wa wn wk, .int .i64 ((wn : Int) - 1)] 27)) := (Below.refl _ _).alloc (Nat.le_refl _) _
  go_upto_region 3 with fail
  obtain ⟨v2, hv⟩ : ∃ v, w1.alloc (.cells #[.slice wa wn wk, .int .i64 ((wn : Int) - 1)] 27) = v := ⟨_, rfl⟩
  rw [hv] at pw b2 ⊢
  obtain ⟨gw, hgw⟩ : ∃ g, w1.heap.size = g := ⟨_, rfl⟩
  have b2' := b2
  rw [hgw] at pw ⊢
  clear hgw hv b2'
  clear ca0 ca1 ca2 ca3
  replace pa := (b2.block ga (Array.getElem?_eq_some_iff.1 pa).1).trans pa
  replace bt := below_then bt b2
  have ca0 : v2.cell? ⟨ga, 0, none⟩ = some (.int .i64 oa) := cell_of_row _ _ 0 _ _ _ pa
  have ca1 : v2.cell? ⟨ga, 1, none⟩ = some (.int .i64 na) := cell_of_row _ _ 1 _ _ _ pa
  have ca2 : v2.cell? ⟨ga, 2, none⟩ = some (.int .i64 qa) := cell_of_row _ _ 2 _ _ _ pa
  have ca3 : v2.cell? ⟨ga, 3, none⟩ = some (.slice aa la ca) := cell_of_row _ _ 3 _ _ _ pa
  have cw0 : v2.cell? ⟨gw, 0, none⟩ = some (.slice wa wn wk) := cell_of_row _ _ 0 _ _ _ pw
  have cw1 : v2.cell? ⟨gw, 1, none⟩ = some (.int .i64 ((wn : Int) - 1)) := cell_of_row _ _ 1 _ _ _ pw
  by_cases h0 : wn < 1
  · have f1 : decide (wn < 1) = true := by simpa using h0
    have f2 : decide ((wn : Int) < 1) = true := by simp; omega
    go_wp2_with fail
    go_ret
    exact ⟨rfl, bt⟩
  have f1 : decide (wn < 1) = false := by simpa using h0
  have f2 : decide ((wn : Int) < 1) = false := by simp; omega
  by_cases h12 : 12 < wn
  · have f3 : decide (12 < wn) = true := by simpa using h12
    have f4 : decide ((12 : Int) < (wn : Int)) = true := by simp; omega
    go_wp2_with fail
    go_ret
    exact ⟨rfl, bt⟩
  have f3 : decide (12 < wn) = false := by simpa using h12
  have f4 : decide ((12 : Int) < (wn : Int)) = false := by simp; omega
  have hLn : ((wn : Int) - 1) = ((wn - 1 : Nat) : Int) := by omega
  obtain ⟨l, hl⟩ : ∃ l, wn - 1 = l := ⟨_, rfl⟩
  rw [hl] at hLn
  rw [hLn] at pw cw1
  clear hLn
  go_wp2_with fail
  refine (fewW_any _ wa wn wk _ row (hr.mono bt) (by omega)).mono ?_
  rintro e w2 ⟨⟨FW, rfl⟩, b2⟩
  clear ca0 ca1 ca2 ca3 cw0 cw1
  replace pa := (b2.block ga (Array.getElem?_eq_some_iff.1 pa).1).trans pa
  replace pw := (b2.block gw (Array.getElem?_eq_some_iff.1 pw).1).trans pw
  replace bt := below_then bt b2
  have ca0 : w2.cell? ⟨ga, 0, none⟩ = some (.int .i64 oa) := cell_of_row _ _ 0 _ _ _ pa
  have ca1 : w2.cell? ⟨ga, 1, none⟩ = some (.int .i64 na) := cell_of_row _ _ 1 _ _ _ pa
  have ca2 : w2.cell? ⟨ga, 2, none⟩ = some (.int .i64 qa) := cell_of_row _ _ 2 _ _ _ pa
  have ca3 : w2.cell? ⟨ga, 3, none⟩ = some (.slice aa la ca) := cell_of_row _ _ 3 _ _ _ pa
  have cw0 : w2.cell? ⟨gw, 0, none⟩ = some (.slice wa wn wk) := cell_of_row _ _ 0 _ _ _ pw
  have cw1 : w2.cell? ⟨gw, 1, none⟩ = some (.int .i64 (l : Nat)) := cell_of_row _ _ 1 _ _ _ pw
  cases FW with
  | false =>
    go_wp2_with fail
    go_ret
    exact ⟨rfl, bt⟩
  | true =>
  go_wp2_with fail
  refine (formula_any _ ta _ 3 (hta.mono bt) (by decide)).mono ?_
  rintro e w4 ⟨⟨BA, rfl, hBA⟩, b4⟩
  clear ca0 ca1 ca2 ca3 cw0 cw1
  replace pa := (b4.block ga (Array.getElem?_eq_some_iff.1 pa).1).trans pa
  replace pw := (b4.block gw (Array.getElem?_eq_some_iff.1 pw).1).trans pw
  replace bt := below_then bt b4
  have ca0 : w4.cell? ⟨ga, 0, none⟩ = some (.int .i64 oa) := cell_of_row _ _ 0 _ _ _ pa
  have ca1 : w4.cell? ⟨ga, 1, none⟩ = some (.int .i64 na) := cell_of_row _ _ 1 _ _ _ pa
  have ca2 : w4.cell? ⟨ga, 2, none⟩ = some (.int .i64 qa) := cell_of_row _ _ 2 _ _ _ pa
  have ca3 : w4.cell? ⟨ga, 3, none⟩ = some (.slice aa la ca) := cell_of_row _ _ 3 _ _ _ pa
  have cw0 : w4.cell? ⟨gw, 0, none⟩ = some (.slice wa wn wk) := cell_of_row _ _ 0 _ _ _ pw
  have cw1 : w4.cell? ⟨gw, 1, none⟩ = some (.int .i64 (l : Nat)) := cell_of_row _ _ 1 _ _ _ pw
  cases BA with
  | false =>
    go_wp2_with fail
    go_ret
    exact ⟨rfl, bt⟩
  | true =>
  have HFA := Lib.hid (hBA rfl)
  clear hBA
  go_wp2_with fail
  refine (lit_any _ ta _ (hta.mono bt)).mono ?_
  rintro e w5 ⟨rfl, b5⟩
  clear ca0 ca1 ca2 ca3 cw0 cw1
  replace pa := (b5.block ga (Array.getElem?_eq_some_iff.1 pa).1).trans pa
  replace pw := (b5.block gw (Array.getElem?_eq_some_iff.1 pw).1).trans pw
  replace bt := below_then bt b5
  have ca0 : w5.cell? ⟨ga, 0, none⟩ = some (.int .i64 oa) := cell_of_row _ _ 0 _ _ _ pa
  have ca1 : w5.cell? ⟨ga, 1, none⟩ = some (.int .i64 na) := cell_of_row _ _ 1 _ _ _ pa
  have ca2 : w5.cell? ⟨ga, 2, none⟩ = some (.int .i64 qa) := cell_of_row _ _ 2 _ _ _ pa
  have ca3 : w5.cell? ⟨ga, 3, none⟩ = some (.slice aa la ca) := cell_of_row _ _ 3 _ _ _ pa
  have cw0 : w5.cell? ⟨gw, 0, none⟩ = some (.slice wa wn wk) := cell_of_row _ _ 0 _ _ _ pw
  have cw1 : w5.cell? ⟨gw, 1, none⟩ = some (.int .i64 (l : Nat)) := cell_of_row _ _ 1 _ _ _ pw
  by_cases hlit : tyT ta = 2
  case neg =>
    rw [decide_eq_false hlit]
    go_wp2_with fail
    go_ret
    exact ⟨rfl, bt⟩
  rw [decide_eq_true hlit]
  have hst : StayAt wn row ta := stay_at (by omega) row ta
  obtain ⟨hsf, hsg, hsgf, hsfg⟩ := hst
  rw [hl] at hsf hsg hsgf hsfg
  have hb : ∀ i, hT wn l row ta i = decide (evT (row i) ta = 1) := fun i => lit_hT wn l row ta i HFA.out.1 hlit
  obtain ⟨B, hB⟩ : ∃ B, hT wn l row ta = B := ⟨_, rfl⟩
  rw [hB] at hsf hsg hsgf hsfg hb
  have HL := Lib.hid hlit
  have Hl := Lib.hid hl
  have Hn := Lib.hid (show 1 ≤ wn ∧ wn ≤ 12 ∧ l < wn by omega)
  have Hs := Lib.hid (And.intro hsf (And.intro hsg (And.intro hsgf hsfg)))
  have HB := Lib.hid hb
  clear hlit hl h0 h12 hsf hsg hsgf hsfg hb hB f1 f2 f3 f4
  have Hca0 := Lib.hid ca0
  have Hca1 := Lib.hid ca1
  have Hca2 := Lib.hid ca2
  have Hca3 := Lib.hid ca3
  have Hcw0 := Lib.hid cw0
  have Hcw1 := Lib.hid cw1
  have BT := Lib.hid bt
  have b0 := Below.refl w5.heap.size w5
  clear bt pa pw ca0 ca1 ca2 ca3 cw0 cw1
  have hwl : wn ≤ 12 := Hn.out.2.1
  go_upto_region 9 with fail
  go_loopw [7, 8, 9, 10] (fun s a q i w' => ∃ j : Nat, j ≤ wn ∧ i = .int .i64 (j : Nat) ∧ s = .bool (orB B j) ∧ a = .bool (andB B j) ∧ q = .bool (lastB B j) ∧ Below w5.heap.size w5 w') (fun _ _ _ i _ => wn - (intOf i).toNat)
  case atStart => exact ⟨0, Nat.zero_le _, rfl, rfl, rfl, rfl, b0⟩
  case round =>
    obtain ⟨j, hj, rfl, rfl, rfl, rfl, hb⟩ := hrel
    by_cases hjn : j < wn
    · have f1 : decide (j < wn) = true := by simpa using hjn
      have q0 := cell_later (cell_next hb Hca0.out)
      have q1 := cell_later (cell_next hb Hca1.out)
      have q2 := cell_later (cell_next hb Hca2.out)
      have q3 := cell_later (cell_next hb Hca3.out)
      have q4 := cell_later (cell_next hb Hcw0.out)
      have q5 := cell_later (cell_next hb Hcw1.out)
      obtain ⟨bw, off, rfl, hlt, hri⟩ := ((hr.mono BT.out).mono hb).resolve_left (by omega)
      obtain ⟨ra, rl, rc, hc, hints⟩ := hri j hjn
      have hcL := cell_later hc
      have nE := fun z : Later wr.heap.size wr => refeval_any ta z.w _ ra rl rc (row j) (hta.mono (below_then BT.out (below_then hb z.below))) (hints.mono z.below) HFA.out.1 (.inr HL.out)
      have hbj := HB.out j
      obtain ⟨X, hX⟩ : ∃ X, evT (row j) ta = X := ⟨_, rfl⟩
      rw [hX] at nE hbj
      have e1 : orB B (j + 1) = (orB B j || B j) := rfl
      have e2 : andB B (j + 1) = (andB B j && B j) := rfl
      have e3 : lastB B (j + 1) = B j := rfl
      obtain ⟨S, hS⟩ : ∃ S, orB B j = S := ⟨_, rfl⟩
      obtain ⟨A, hA⟩ : ∃ S, andB B j = S := ⟨_, rfl⟩
      obtain ⟨Q, hQ⟩ : ∃ S, lastB B j = S := ⟨_, rfl⟩
      rw [hS] at e1 ⊢
      rw [hA] at e2 ⊢
      rw [hQ]
      rw [hbj] at e1 e2 e3
      have E := Lib.hid (And.intro e1 (And.intro e2 e3))
      have HH := Lib.hid hb
      clear hX hS hA hQ hbj e1 e2 e3 hc hints hri hb
      have hx : (decide (X = 1) = true ∧ (X == 1) = true) ∨ (decide (X = 1) = false ∧ (X == 1) = false) := by by_cases h : X = 1 <;> simp [h]
      rcases hx with ⟨hx, hxb⟩ | ⟨hx, hxb⟩
      all_goals
        go_wp2_with fail
        refine wp_region_later wr.heap.size wr (by kernel_rfl) (by kernel_rfl) (Below.refl _ _) ?_
        repeat (go_big_quiet_step (((go_at_call 18; refine Calls.later0 (nE _)))))
        refine wpQuiet_nil ?_
        intro _ hlat
        obtain ⟨z, rfl⟩ := hlat
        cases S <;> cases A
        all_goals
          go_wp2_with fail
          have E2 := E.out
          rw [hx] at E2
          exact ⟨⟨j + 1, by omega, by simp, by rw [E2.1]; (try simp [hxb]), by rw [E2.2.1]; (try simp [hxb]), by rw [E2.2.2]; (try simp [hxb]), below_then HH.out z.below⟩, by simp [intOf]; omega⟩
    · have f1 : decide (j < wn) = false := by simpa using hjn
      obtain rfl : j = wn := by omega
      have bD : Below wr.heap.size wr wr.drew := (Below.refl _ _).drew
      have hbD := below_then hb bD
      have btD := below_then BT.out hbD
      obtain ⟨n1, n2, n3⟩ := Hn.out
      obtain ⟨s1, s2, s3, s4⟩ := Hs.out
      obtain ⟨S, hS⟩ : ∃ S, orB B j = S := ⟨_, rfl⟩
      obtain ⟨A, hA⟩ : ∃ S, andB B j = S := ⟨_, rfl⟩
      obtain ⟨Q, hQ⟩ : ∃ S, lastB B j = S := ⟨_, rfl⟩
      rw [hS] at s1 ⊢
      rw [hA] at s2 ⊢
      rw [hQ] at s3 s4 ⊢
      have hT0 := hta.mono btD
      have hW0 := hr.mono btD
      have r0 : wr.drew.cell? ⟨ga, 0, none⟩ = some (.int .i64 oa) := cell_next hbD Hca0.out
      have r1 : wr.drew.cell? ⟨ga, 1, none⟩ = some (.int .i64 na) := cell_next hbD Hca1.out
      have r2 : wr.drew.cell? ⟨ga, 2, none⟩ = some (.int .i64 qa) := cell_next hbD Hca2.out
      have r3 : wr.drew.cell? ⟨ga, 3, none⟩ = some (.slice aa la ca) := cell_next hbD Hca3.out
      have r4 : wr.drew.cell? ⟨gw, 0, none⟩ = some (.slice wa j wk) := cell_next hbD Hcw0.out
      have r5 : wr.drew.cell? ⟨gw, 1, none⟩ = some (.int .i64 (l : Nat)) := cell_next hbD Hcw1.out
      have bt := btD
      clear hS hA hQ bD hbD btD hb
      go_wp2_with fail
      go_region_held3 (fun w' => w'.cell? ⟨ga, 0, none⟩ = some (.int .i64 oa) ∧ w'.cell? ⟨ga, 1, none⟩ = some (.int .i64 na) ∧ w'.cell? ⟨ga, 2, none⟩ = some (.int .i64 qa) ∧ w'.cell? ⟨ga, 3, none⟩ = some (.slice aa la ca) ∧ w'.cell? ⟨gw, 0, none⟩ = some (.slice wa j wk) ∧ w'.cell? ⟨gw, 1, none⟩ = some (.int .i64 (l : Nat)))
        (refine ⟨?_, ?_, ?_, ?_, ?_, ?_⟩ <;> with_reducible assumption)
        (first | (go_at_call 14; ((with_reducible refine (one_any _ 21 ta _ (by decide) hT0).mono ?_); rintro e ws ⟨⟨u, rfl, hu⟩, bz⟩; have zz := cell_next bz r0; clear r0; have r0 := zz; clear zz; have zz := cell_next bz r1; clear r1; have r1 := zz; clear zz; have zz := cell_next bz r2; clear r2; have r2 := zz; clear zz; have zz := cell_next bz r3; clear r3; have r3 := zz; clear zz; have zz := cell_next bz r4; clear r4; have r4 := zz; clear zz; have zz := cell_next bz r5; clear r5; have r5 := zz; clear zz; have zz := hT0.mono bz; clear hT0; have hT0 := zz; clear zz; have zz := hW0.mono bz; clear hW0; have hW0 := zz; clear zz; have zz := below_then bt bz; clear bt; have bt := zz; clear zz)) | (go_at_call 14; ((with_reducible refine (one_any _ 22 ta _ (by decide) hT0).mono ?_); rintro e ws ⟨⟨u, rfl, hu⟩, bz⟩; have zz := cell_next bz r0; clear r0; have r0 := zz; clear zz; have zz := cell_next bz r1; clear r1; have r1 := zz; clear zz; have zz := cell_next bz r2; clear r2; have r2 := zz; clear zz; have zz := cell_next bz r3; clear r3; have r3 := zz; clear zz; have zz := cell_next bz r4; clear r4; have r4 := zz; clear zz; have zz := cell_next bz r5; clear r5; have r5 := zz; clear zz; have zz := hT0.mono bz; clear hT0; have hT0 := zz; clear zz; have zz := hW0.mono bz; clear hW0; have hW0 := zz; clear zz; have zz := below_then bt bz; clear bt; have bt := zz; clear zz)) | (go_at_call 14; ((with_reducible refine (one_any _ 22 (T.un 21 ta) _ (by decide) hu).mono ?_); rintro e ws ⟨⟨u, rfl, hu⟩, bz⟩; have zz := cell_next bz r0; clear r0; have r0 := zz; clear zz; have zz := cell_next bz r1; clear r1; have r1 := zz; clear zz; have zz := cell_next bz r2; clear r2; have r2 := zz; clear zz; have zz := cell_next bz r3; clear r3; have r3 := zz; clear zz; have zz := cell_next bz r4; clear r4; have r4 := zz; clear zz; have zz := cell_next bz r5; clear r5; have r5 := zz; clear zz; have zz := hT0.mono bz; clear hT0; have hT0 := zz; clear zz; have zz := hW0.mono bz; clear hW0; have hW0 := zz; clear zz; have zz := below_then bt bz; clear bt; have bt := zz; clear zz)) | (go_at_call 14; ((with_reducible refine (one_any _ 21 (T.un 22 ta) _ (by decide) hu).mono ?_); rintro e ws ⟨⟨u, rfl, hu⟩, bz⟩; have zz := cell_next bz r0; clear r0; have r0 := zz; clear zz; have zz := cell_next bz r1; clear r1; have r1 := zz; clear zz; have zz := cell_next bz r2; clear r2; have r2 := zz; clear zz; have zz := cell_next bz r3; clear r3; have r3 := zz; clear zz; have zz := cell_next bz r4; clear r4; have r4 := zz; clear zz; have zz := cell_next bz r5; clear r5; have r5 := zz; clear zz; have zz := hT0.mono bz; clear hT0; have hT0 := zz; clear zz; have zz := hW0.mono bz; clear hW0; have hW0 := zz; clear zz; have zz := below_then bt bz; clear bt; have bt := zz; clear zz)) | (go_at_call 16; ((with_reducible refine (holds_is _ (T.un 21 ta) _ _ _ _ _ _ _ hu hW0 (HFA.out.time (.inr (.inl rfl))) (by omega) n3 s1).mono ?_); rintro e ws ⟨rfl, bz⟩; have zz := cell_next bz r0; clear r0; have r0 := zz; clear zz; have zz := cell_next bz r1; clear r1; have r1 := zz; clear zz; have zz := cell_next bz r2; clear r2; have r2 := zz; clear zz; have zz := cell_next bz r3; clear r3; have r3 := zz; clear zz; have zz := cell_next bz r4; clear r4; have r4 := zz; clear zz; have zz := cell_next bz r5; clear r5; have r5 := zz; clear zz; have zz := hT0.mono bz; clear hT0; have hT0 := zz; clear zz; have zz := hW0.mono bz; clear hW0; have hW0 := zz; clear zz; have zz := below_then bt bz; clear bt; have bt := zz; clear zz)) | (go_at_call 16; ((with_reducible refine (holds_is _ (T.un 22 ta) _ _ _ _ _ _ _ hu hW0 (HFA.out.time (.inr (.inr rfl))) (by omega) n3 s2).mono ?_); rintro e ws ⟨rfl, bz⟩; have zz := cell_next bz r0; clear r0; have r0 := zz; clear zz; have zz := cell_next bz r1; clear r1; have r1 := zz; clear zz; have zz := cell_next bz r2; clear r2; have r2 := zz; clear zz; have zz := cell_next bz r3; clear r3; have r3 := zz; clear zz; have zz := cell_next bz r4; clear r4; have r4 := zz; clear zz; have zz := cell_next bz r5; clear r5; have r5 := zz; clear zz; have zz := hT0.mono bz; clear hT0; have hT0 := zz; clear zz; have zz := hW0.mono bz; clear hW0; have hW0 := zz; clear zz; have zz := below_then bt bz; clear bt; have bt := zz; clear zz)) | (go_at_call 16; ((with_reducible refine (holds_is _ (T.un 22 (T.un 21 ta)) _ _ _ _ _ _ _ hu hW0 ((HFA.out.time (.inr (.inl rfl))).time (.inr (.inr rfl))) (by omega) n3 s3).mono ?_); rintro e ws ⟨rfl, bz⟩; have zz := cell_next bz r0; clear r0; have r0 := zz; clear zz; have zz := cell_next bz r1; clear r1; have r1 := zz; clear zz; have zz := cell_next bz r2; clear r2; have r2 := zz; clear zz; have zz := cell_next bz r3; clear r3; have r3 := zz; clear zz; have zz := cell_next bz r4; clear r4; have r4 := zz; clear zz; have zz := cell_next bz r5; clear r5; have r5 := zz; clear zz; have zz := hT0.mono bz; clear hT0; have hT0 := zz; clear zz; have zz := hW0.mono bz; clear hW0; have hW0 := zz; clear zz; have zz := below_then bt bz; clear bt; have bt := zz; clear zz)) | (go_at_call 16; ((with_reducible refine (holds_is _ (T.un 21 (T.un 22 ta)) _ _ _ _ _ _ _ hu hW0 ((HFA.out.time (.inr (.inr rfl))).time (.inr (.inl rfl))) (by omega) n3 s4).mono ?_); rintro e ws ⟨rfl, bz⟩; have zz := cell_next bz r0; clear r0; have r0 := zz; clear zz; have zz := cell_next bz r1; clear r1; have r1 := zz; clear zz; have zz := cell_next bz r2; clear r2; have r2 := zz; clear zz; have zz := cell_next bz r3; clear r3; have r3 := zz; clear zz; have zz := cell_next bz r4; clear r4; have r4 := zz; clear zz; have zz := cell_next bz r5; clear r5; have r5 := zz; clear zz; have zz := hT0.mono bz; clear hT0; have hT0 := zz; clear zz; have zz := hW0.mono bz; clear hW0; have hW0 := zz; clear zz; have zz := below_then bt bz; clear bt; have bt := zz; clear zz)))
      go_wp2_with fail
      go_ret
      exact ⟨rfl, bt⟩
end Go.Proofs.Ytogdfjcgcdbnaaa
