/- SemSpreads: scrutiny/scrutinylaw17.SemSpreads returns true for every input, and writes nothing that was there. No condition. -/
import Derived.Test.YtogdfjcgcdbnaaaSemSpreads
import Derived.Test.YtogdfjcgcdbnaaaTreeArgs
import Derived.Test.YtogdfjcgcdbnaaaList14
import Derived.Test.YtogdfjcgcdbnaaaFrame
import Derived.Test.YtogdfjcgcdbnaaaArgs
namespace Go.Proofs.Ytogdfjcgcdbnaaa.semSpreadsDone
open Go.ChangeShapes Go.WideShapes Go.ChangeAt Go.RowKit
set_option linter.unusedVariables false

set_option maxRecDepth 100000 in
theorem lifted (os : Os) (started : os.Started) (H : Type) (enc : TypeId × Value → H) :
    ReturnsInHanded {} Try.checked os 6 .any (Rows.semSpreadsSpec.pre6 enc Try.prog Try.f6 Rows.semSpreadsRow.domain false) (Rows.semSpreadsSpec.post enc Try.prog Try.f6 false true false false) := by
  refine returnsInHanded_of_change (C := Try.checked) Try.own started (by kernel_rfl) Try.func6
    (ChangeSpec.witness6 (enc := enc) (C := Try.checked) false ⟨#[], #[.agg #[.int .i64 0, .int .i64 0, .int .i64 0, .slice none 0 0, .int .i64 0, .int .i64 0, .int .i64 0, .slice none 0 0, .int .i64 0, .int .i64 0, .int .i64 0, .slice none 0 0, .slice none 0 0, .int .i64 0]], []⟩ 8 (by kernel_rfl) (by kernel_rfl) (by kernel_rfl) (by kernel_rfl)) ?_
  intro W base args ds gs before hval0 hW hcnd _
  have hval : ∀ (j : Nat) t v, Try.f6.params[j]? = some t → args[j]? = some v → Value.okWide Try.prog W .any base t v := hval0
  have hW' := hW
  obtain ⟨p, q, hA0, hV, rfl, hfz, hnd⟩ := hW
  have hA : DataW.TrodAll enc Try.prog W 0 (fun _ => true) true Try.f6.params.toList args.toList ds p := hA0
  rw [Try.params6] at hA hval
  obtain ⟨v0, vs0, d0, ds0, p0, q0, hargs, rfl, rfl, h0, r0⟩ := trodAll_cons hA
  obtain ⟨rfl, rfl, rfl⟩ := trodAll_nil r0
  obtain rfl : args = #[v0] := by cases args; simp_all
  obtain ⟨rfl, rfl⟩ := trodVars_none hV
  have k0 := h0
  have lt0 : ∀ x ∈ p0, x.block < W.heap.size := by obtain ⟨m, hm⟩ := k0; exact DataW.trod_lt m _ _ _ hm
  obtain ⟨l0, rfl, hl0, n0, hf0⟩ := struct_arg Try.underlying44 (hval 0 44 _ rfl rfl) h0
  rw [show Try.prog.cellsOf 44 = 14 from by kernel_rfl] at hl0
  obtain ⟨c0_0, c0_1, c0_2, c0_3, c0_4, c0_5, c0_6, c0_7, c0_8, c0_9, c0_10, c0_11, c0_12, c0_13, rfl⟩ := list14 l0 hl0
  obtain ⟨y0_0, g0_0⟩ := hf0 0 _ rfl
  have e0_0 : DataW.trod enc Try.prog W 0 (fun _ => true) true n0 24 [c0_0, c0_1, c0_2, c0_3] = some y0_0 := by
    have g : DataW.trod enc Try.prog W 0 (fun _ => true) true n0 24 (([c0_0, c0_1, c0_2, c0_3, c0_4, c0_5, c0_6, c0_7, c0_8, c0_9, c0_10, c0_11, c0_12, c0_13].drop 0).take (Try.prog.cellsOf 24)) = some y0_0 := g0_0
    rw [show Try.prog.cellsOf 24 = 4 from by kernel_rfl] at g
    exact g
  obtain ⟨y0_1, g0_1⟩ := hf0 1 _ rfl
  have e0_1 : DataW.trod enc Try.prog W 0 (fun _ => true) true n0 24 [c0_4, c0_5, c0_6, c0_7] = some y0_1 := by
    have g : DataW.trod enc Try.prog W 0 (fun _ => true) true n0 24 (([c0_0, c0_1, c0_2, c0_3, c0_4, c0_5, c0_6, c0_7, c0_8, c0_9, c0_10, c0_11, c0_12, c0_13].drop 4).take (Try.prog.cellsOf 24)) = some y0_1 := g0_1
    rw [show Try.prog.cellsOf 24 = 4 from by kernel_rfl] at g
    exact g
  obtain ⟨y0_2, g0_2⟩ := hf0 2 _ rfl
  have e0_2 : DataW.trod enc Try.prog W 0 (fun _ => true) true n0 24 [c0_8, c0_9, c0_10, c0_11] = some y0_2 := by
    have g : DataW.trod enc Try.prog W 0 (fun _ => true) true n0 24 (([c0_0, c0_1, c0_2, c0_3, c0_4, c0_5, c0_6, c0_7, c0_8, c0_9, c0_10, c0_11, c0_12, c0_13].drop 8).take (Try.prog.cellsOf 24)) = some y0_2 := g0_2
    rw [show Try.prog.cellsOf 24 = 4 from by kernel_rfl] at g
    exact g
  obtain ⟨y0_3, g0_3⟩ := hf0 3 _ rfl
  have e0_3 : DataW.trod enc Try.prog W 0 (fun _ => true) true n0 27 [c0_12, c0_13] = some y0_3 := by
    have g : DataW.trod enc Try.prog W 0 (fun _ => true) true n0 27 (([c0_0, c0_1, c0_2, c0_3, c0_4, c0_5, c0_6, c0_7, c0_8, c0_9, c0_10, c0_11, c0_12, c0_13].drop 12).take (Try.prog.cellsOf 27)) = some y0_3 := g0_3
    rw [show Try.prog.cellsOf 27 = 2 from by kernel_rfl] at g
    exact g
  obtain ⟨m0_3, hs0_3⟩ := field_trod Try.underlying27 e0_3
  obtain ⟨z0_3_0, g0_3_0⟩ := hs0_3 0 _ rfl
  have e0_3_0 : DataW.trod enc Try.prog W 0 (fun _ => true) true m0_3 25 [c0_12] = some z0_3_0 := by
    have g : DataW.trod enc Try.prog W 0 (fun _ => true) true m0_3 25 (([c0_12, c0_13].drop 0).take (Try.prog.cellsOf 25)) = some z0_3_0 := g0_3_0
    rw [show Try.prog.cellsOf 25 = 1 from by kernel_rfl] at g
    exact g
  obtain ⟨z0_3_1, g0_3_1⟩ := hs0_3 1 _ rfl
  have e0_3_1 : DataW.trod enc Try.prog W 0 (fun _ => true) true m0_3 3 [c0_13] = some z0_3_1 := by
    have g : DataW.trod enc Try.prog W 0 (fun _ => true) true m0_3 3 (([c0_12, c0_13].drop 1).take (Try.prog.cellsOf 3)) = some z0_3_1 := g0_3_1
    rw [show Try.prog.cellsOf 3 = 1 from by kernel_rfl] at g
    exact g
  obtain ⟨ta, oa, na, qa, aa, la, ca, hcsa, ka⟩ := tree_trod (sl := 22) Try.underlying24 rfl rfl rfl rfl rfl rfl rfl rfl rfl Try.underlying3 Try.underlying3 Try.underlying3 Try.underlying22 (by kernel_rfl) (by kernel_rfl) (by kernel_rfl) (by kernel_rfl) (by kernel_rfl) _ _ _ e0_0
  simp only [List.cons.injEq, and_true] at hcsa
  obtain ⟨rfl, rfl, rfl, rfl⟩ := hcsa
  obtain ⟨tb, ob, nb, qb, ab, lb, cb, hcsb, kb⟩ := tree_trod (sl := 22) Try.underlying24 rfl rfl rfl rfl rfl rfl rfl rfl rfl Try.underlying3 Try.underlying3 Try.underlying3 Try.underlying22 (by kernel_rfl) (by kernel_rfl) (by kernel_rfl) (by kernel_rfl) (by kernel_rfl) _ _ _ e0_1
  simp only [List.cons.injEq, and_true] at hcsb
  obtain ⟨rfl, rfl, rfl, rfl⟩ := hcsb
  obtain ⟨tc, oc, nc, qc, ac, lc, cc, hcsc, kc⟩ := tree_trod (sl := 22) Try.underlying24 rfl rfl rfl rfl rfl rfl rfl rfl rfl Try.underlying3 Try.underlying3 Try.underlying3 Try.underlying22 (by kernel_rfl) (by kernel_rfl) (by kernel_rfl) (by kernel_rfl) (by kernel_rfl) _ _ _ e0_2
  simp only [List.cons.injEq, and_true] at hcsc
  obtain ⟨rfl, rfl, rfl, rfl⟩ := hcsc
  obtain ⟨wa, wn, wk, row, rfl, hwn, hwd⟩ := word_trod Try.underlying25 Try.underlying31 Try.underlying3 (by kernel_rfl) (by kernel_rfl) e0_3_0
  obtain ⟨Lw, _, _, rfl⟩ := int_trod Try.underlying3 e0_3_1
  clear hA0 hval0
  refine (semspreads_any W ta tb tc oa na qa ob nb qb oc nc qc aa ab ac la ca lb cb lc cc wa wn wk Lw row ka kb kc hwd hwn).mono fun e W' ⟨he, bel⟩ => ?_
  subst he
  exact ⟨_, rfl, _, _, _, [], _, [], hW', trodAll_mk1 (shut_bool Try.underlying4 _), (trodAll_cons_mk (Below.trod Try.laidOut (by kernel_rfl) (of_decide_eq_true (by kernel_rfl)) k0 bel lt0) trodAll_mk0), rfl, bel.frame _, fun h => by cases h⟩

theorem over : Rows.semSpreadsRow.holds Try.pinned (OpenSpec.ofChange Rows.semSpreadsSpec) :=
  OpenClaim.holds_of_wide 6 Try.f6 rfl rfl rfl rfl rfl rfl rfl ⟨rfl, rfl, rfl, rfl, rfl⟩ rfl rfl rfl rfl rfl (by kernel_rfl) Try.func6 (by kernel_rfl)
    (of_decide_eq_true (by kernel_rfl)) (by unfold Func.isWrapper; first | (rw [if_pos (by decide +kernel)]; kernel_rfl) | (rw [if_neg (by decide +kernel)]; exact ⟨rfl, rfl⟩))
    (fun os started H enc _ => lifted os started H enc)

/-- The statement. -/
theorem proved : Rows.SemSpreadsSaid := over
#print axioms proved
end Go.Proofs.Ytogdfjcgcdbnaaa.semSpreadsDone
