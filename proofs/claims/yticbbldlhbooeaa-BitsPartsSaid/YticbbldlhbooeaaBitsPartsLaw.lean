/- BitsParts: scrutiny/scrutinylaw01.BitsParts returns true for every input, and writes nothing that was there. No condition. -/
import Derived.Test.YticbbldlhbooeaaBitsParts
import Derived.Test.YticbbldlhbooeaaFrame
import Derived.Test.YticbbldlhbooeaaArgs
namespace Go.Proofs.Yticbbldlhbooeaa.bitsPartsDone
open Go.ChangeShapes Go.WideShapes Go.ChangeAt Go.RowKit
set_option linter.unusedVariables false

set_option maxRecDepth 100000 in
theorem lifted (os : Os) (started : os.Started) (H : Type) (enc : TypeId × Value → H) :
    ReturnsInHanded {} Try.checked os 6 .any (Rows.bitsPartsSpec.pre6 enc Try.prog Try.f6 Rows.bitsPartsRow.domain false) (Rows.bitsPartsSpec.post enc Try.prog Try.f6 false true false false) := by
  refine returnsInHanded_of_change (C := Try.checked) Try.own started (by kernel_rfl) Try.func6
    (ChangeSpec.witness6 (enc := enc) (C := Try.checked) false ⟨#[], #[.agg #[.slice none 0 0, .int .i64 0], .int .u32 0, .int .u32 0], []⟩ 8 (by kernel_rfl) (by kernel_rfl) (by kernel_rfl) (by kernel_rfl)) ?_
  intro W base args ds gs before hval0 hW hcnd _
  have hval : ∀ (j : Nat) t v, Try.f6.params[j]? = some t → args[j]? = some v → Value.okWide Try.prog W .any base t v := hval0
  have hW' := hW
  obtain ⟨p, q, hA0, hV, rfl, hfz, hnd⟩ := hW
  have hA : DataW.TrodAll enc Try.prog W 0 (fun _ => true) true Try.f6.params.toList args.toList ds p := hA0
  rw [Try.params6] at hA hval
  obtain ⟨v0, vs0, d0, ds0, p0, q0, hargs, rfl, rfl, h0, r0⟩ := trodAll_cons hA
  obtain ⟨v1, vs1, d1, ds1, p1, q1, rfl, rfl, rfl, h1, r1⟩ := trodAll_cons r0
  obtain ⟨v2, vs2, d2, ds2, p2, q2, rfl, rfl, rfl, h2, r2⟩ := trodAll_cons r1
  obtain ⟨rfl, rfl, rfl⟩ := trodAll_nil r2
  obtain rfl : args = #[v0, v1, v2] := by cases args; simp_all
  obtain ⟨rfl, rfl⟩ := trodVars_none hV
  have k0 := h0
  have lt0 : ∀ x ∈ p0, x.block < W.heap.size := by obtain ⟨m, hm⟩ := k0; exact DataW.trod_lt m _ _ _ hm
  have k1 := h1
  have lt1 : ∀ x ∈ p1, x.block < W.heap.size := by obtain ⟨m, hm⟩ := k1; exact DataW.trod_lt m _ _ _ hm
  have k2 := h2
  have lt2 : ∀ x ∈ p2, x.block < W.heap.size := by obtain ⟨m, hm⟩ := k2; exact DataW.trod_lt m _ _ _ hm
  obtain ⟨l0, rfl, hl0, n0, hf0⟩ := struct_arg Try.underlying24 (hval 0 24 _ rfl rfl) h0
  rw [show Try.prog.cellsOf 24 = 2 from by kernel_rfl] at hl0
  obtain ⟨c0_0, c0_1, rfl⟩ := list2 l0 hl0
  obtain ⟨y0_0, g0_0⟩ := hf0 0 _ rfl
  have e0_0 : DataW.trod enc Try.prog W 0 (fun _ => true) true n0 22 [c0_0] = some y0_0 := by
    have g : DataW.trod enc Try.prog W 0 (fun _ => true) true n0 22 (([c0_0, c0_1].drop 0).take (Try.prog.cellsOf 22)) = some y0_0 := g0_0
    rw [show Try.prog.cellsOf 22 = 1 from by kernel_rfl] at g
    exact g
  obtain ⟨y0_1, g0_1⟩ := hf0 1 _ rfl
  have e0_1 : DataW.trod enc Try.prog W 0 (fun _ => true) true n0 3 [c0_1] = some y0_1 := by
    have g : DataW.trod enc Try.prog W 0 (fun _ => true) true n0 3 (([c0_0, c0_1].drop 1).take (Try.prog.cellsOf 3)) = some y0_1 := g0_1
    rw [show Try.prog.cellsOf 3 = 1 from by kernel_rfl] at g
    exact g
  obtain ⟨a0, len0, cap0, l, rfl, hby⟩ := bytes_trod Try.underlying22 Try.underlying5 (by kernel_rfl) e0_0
  obtain ⟨N, h1_N, h2_N, rfl⟩ := int_trod Try.underlying3 e0_1
  obtain ⟨hi, h_hi, rfl⟩ := nat_arg Try.underlying49 4294967296 wf_u32 (hval 1 49 _ rfl rfl) h1
  obtain ⟨lo, h_lo, rfl⟩ := nat_arg Try.underlying49 4294967296 wf_u32 (hval 2 49 _ rfl rfl) h2
  clear hA0 hval0
  refine (bitsparts_any W a0 len0 cap0 l N hi lo h_hi h_lo h1_N h2_N hby).mono fun e W' ⟨he, bel⟩ => ?_
  subst he
  exact ⟨_, rfl, _, _, _, [], _, [], hW', trodAll_mk1 (shut_bool Try.underlying4 _), (trodAll_cons_mk (Below.trod Try.laidOut (by kernel_rfl) (of_decide_eq_true (by kernel_rfl)) k0 bel lt0) (trodAll_cons_mk (Below.trod Try.laidOut (by kernel_rfl) (of_decide_eq_true (by kernel_rfl)) k1 bel lt1) (trodAll_cons_mk (Below.trod Try.laidOut (by kernel_rfl) (of_decide_eq_true (by kernel_rfl)) k2 bel lt2) trodAll_mk0))), rfl, bel.frame _, fun h => by cases h⟩

theorem over : Rows.bitsPartsRow.holds Try.pinned (OpenSpec.ofChange Rows.bitsPartsSpec) :=
  OpenClaim.holds_of_wide 6 Try.f6 rfl rfl rfl rfl rfl rfl rfl ⟨rfl, rfl, rfl, rfl, rfl⟩ rfl rfl rfl rfl rfl (by kernel_rfl) Try.func6 (by kernel_rfl)
    (of_decide_eq_true (by kernel_rfl)) (by unfold Func.isWrapper; first | (rw [if_pos (by decide +kernel)]; kernel_rfl) | (rw [if_neg (by decide +kernel)]; exact ⟨rfl, rfl⟩))
    (fun os started H enc _ => lifted os started H enc)

/-- The statement. -/
theorem proved : Rows.BitsPartsSaid := over
#print axioms proved
end Go.Proofs.Yticbbldlhbooeaa.bitsPartsDone
