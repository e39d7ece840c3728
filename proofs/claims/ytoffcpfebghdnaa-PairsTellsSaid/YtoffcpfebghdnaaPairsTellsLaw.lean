/- PairsTells: scrutiny/scrutinylaw05.PairsTells returns true for every input, and writes nothing that was there. No condition. -/
import Derived.Test.YtoffcpfebghdnaaPairTells
import Derived.Test.YtoffcpfebghdnaaPrs
import Derived.Test.YtoffcpfebghdnaaFrame
import Derived.Test.YtoffcpfebghdnaaArgs
namespace Go.Proofs.Ytoffcpfebghdnaa.pairsTellsDone
open Go.ChangeShapes Go.WideShapes Go.ChangeAt Go.RowKit
set_option linter.unusedVariables false

set_option maxRecDepth 100000 in
theorem lifted (os : Os) (started : os.Started) (H : Type) (enc : TypeId × Value → H) :
    ReturnsInHanded {} Try.checked os 3 .any (Rows.pairsTellsSpec.pre6 enc Try.prog Try.f3 Rows.pairsTellsRow.domain false) (Rows.pairsTellsSpec.post enc Try.prog Try.f3 false true false false) := by
  refine returnsInHanded_of_change (C := Try.checked) Try.own started (by kernel_rfl) Try.func3
    (ChangeSpec.witness6 (enc := enc) (C := Try.checked) false ⟨#[], #[.agg #[.int .i64 0, .slice none 0 0, .int .u32 0, .int .u32 0, .int .i64 0]], []⟩ 8 (by kernel_rfl) (by kernel_rfl) (by kernel_rfl) (by kernel_rfl)) ?_
  intro W base args ds gs before hval0 hW hcnd _
  have hval : ∀ (j : Nat) t v, Try.f3.params[j]? = some t → args[j]? = some v → Value.okWide Try.prog W .any base t v := hval0
  have hW' := hW
  obtain ⟨p, q, hA0, hV, rfl, hfz, hnd⟩ := hW
  have hA : DataW.TrodAll enc Try.prog W 0 (fun _ => true) true Try.f3.params.toList args.toList ds p := hA0
  rw [Try.params3] at hA hval
  obtain ⟨v0, vs0, d0, ds0, p0, q0, hargs, rfl, rfl, h0, r0⟩ := trodAll_cons hA
  obtain ⟨rfl, rfl, rfl⟩ := trodAll_nil r0
  obtain rfl : args = #[v0] := by cases args; simp_all
  obtain ⟨rfl, rfl⟩ := trodVars_none hV
  have k0 := h0
  have lt0 : ∀ x ∈ p0, x.block < W.heap.size := by obtain ⟨m, hm⟩ := k0; exact DataW.trod_lt m _ _ _ hm
  obtain ⟨l0, rfl, hl0, n0, hf0⟩ := struct_arg Try.underlying25 (hval 0 25 _ rfl rfl) h0
  rw [show Try.prog.cellsOf 25 = 5 from by kernel_rfl] at hl0
  obtain ⟨c0_0, c0_1, c0_2, c0_3, c0_4, rfl⟩ := list5 l0 hl0
  obtain ⟨y0_0, g0_0⟩ := hf0 0 _ rfl
  have e0_0 : DataW.trod enc Try.prog W 0 (fun _ => true) true n0 3 [c0_0] = some y0_0 := by
    have g : DataW.trod enc Try.prog W 0 (fun _ => true) true n0 3 (([c0_0, c0_1, c0_2, c0_3, c0_4].drop 0).take (Try.prog.cellsOf 3)) = some y0_0 := g0_0
    rw [show Try.prog.cellsOf 3 = 1 from by kernel_rfl] at g
    exact g
  obtain ⟨y0_1, g0_1⟩ := hf0 1 _ rfl
  have e0_1 : DataW.trod enc Try.prog W 0 (fun _ => true) true n0 22 [c0_1] = some y0_1 := by
    have g : DataW.trod enc Try.prog W 0 (fun _ => true) true n0 22 (([c0_0, c0_1, c0_2, c0_3, c0_4].drop 1).take (Try.prog.cellsOf 22)) = some y0_1 := g0_1
    rw [show Try.prog.cellsOf 22 = 1 from by kernel_rfl] at g
    exact g
  obtain ⟨y0_2, g0_2⟩ := hf0 2 _ rfl
  have e0_2 : DataW.trod enc Try.prog W 0 (fun _ => true) true n0 23 [c0_2] = some y0_2 := by
    have g : DataW.trod enc Try.prog W 0 (fun _ => true) true n0 23 (([c0_0, c0_1, c0_2, c0_3, c0_4].drop 2).take (Try.prog.cellsOf 23)) = some y0_2 := g0_2
    rw [show Try.prog.cellsOf 23 = 1 from by kernel_rfl] at g
    exact g
  obtain ⟨y0_3, g0_3⟩ := hf0 3 _ rfl
  have e0_3 : DataW.trod enc Try.prog W 0 (fun _ => true) true n0 23 [c0_3] = some y0_3 := by
    have g : DataW.trod enc Try.prog W 0 (fun _ => true) true n0 23 (([c0_0, c0_1, c0_2, c0_3, c0_4].drop 3).take (Try.prog.cellsOf 23)) = some y0_3 := g0_3
    rw [show Try.prog.cellsOf 23 = 1 from by kernel_rfl] at g
    exact g
  obtain ⟨y0_4, g0_4⟩ := hf0 4 _ rfl
  have e0_4 : DataW.trod enc Try.prog W 0 (fun _ => true) true n0 3 [c0_4] = some y0_4 := by
    have g : DataW.trod enc Try.prog W 0 (fun _ => true) true n0 3 (([c0_0, c0_1, c0_2, c0_3, c0_4].drop 4).take (Try.prog.cellsOf 3)) = some y0_4 := g0_4
    rw [show Try.prog.cellsOf 3 = 1 from by kernel_rfl] at g
    exact g
  obtain ⟨m, h1_m, h2_m, rfl⟩ := int_trod Try.underlying3 e0_0
  obtain ⟨al, ln, cl, fA, rfl, kA⟩ := prs_trod Try.underlying22 Try.underlying44 Try.underlying23 (by kernel_rfl) (by kernel_rfl) e0_1
  obtain ⟨a, h_a, rfl⟩ := nat_trod Try.underlying23 4294967296 wf_u32 e0_2
  obtain ⟨b, h_b, rfl⟩ := nat_trod Try.underlying23 4294967296 wf_u32 e0_3
  obtain ⟨i0, h1_i0, h2_i0, rfl⟩ := int_trod Try.underlying3 e0_4
  clear hA0 hval0
  refine (pairstells_any W m i0 al ln cl fA kA a b h_a h_b).mono fun e W' ⟨he, bel⟩ => ?_
  subst he
  exact ⟨_, rfl, _, _, _, [], _, [], hW', trodAll_mk1 (shut_bool Try.underlying4 _), (trodAll_cons_mk (Below.trod Try.laidOut (by kernel_rfl) (of_decide_eq_true (by kernel_rfl)) k0 bel lt0) trodAll_mk0), rfl, bel.frame _, fun h => by cases h⟩

theorem over : Rows.pairsTellsRow.holds Try.pinned (OpenSpec.ofChange Rows.pairsTellsSpec) :=
  OpenClaim.holds_of_wide 3 Try.f3 rfl rfl rfl rfl rfl rfl rfl ⟨rfl, rfl, rfl, rfl, rfl⟩ rfl rfl rfl rfl rfl (by kernel_rfl) Try.func3 (by kernel_rfl)
    (of_decide_eq_true (by kernel_rfl)) (by unfold Func.isWrapper; first | (rw [if_pos (by decide +kernel)]; kernel_rfl) | (rw [if_neg (by decide +kernel)]; exact ⟨rfl, rfl⟩))
    (fun os started H enc _ => lifted os started H enc)

/-- The statement. -/
theorem proved : Rows.PairsTellsSaid := over
#print axioms proved
end Go.Proofs.Ytoffcpfebghdnaa.pairsTellsDone
