/- lex.Signs and the document's. -/
import Derived.Test.YtcljdlkebaflpaaDoorLex4
namespace Go.Proofs.YtcljdlkebaflpaaDoor
open Go.RowKit
set_option linter.unusedVariables false

theorem Tryd.info_str : (Tryd.prog.info? 9).map (fun i => (i.zero, i.size, i.bytes)) = some (some (.string ⟨#[]⟩), 1, 16) := by kernel_rfl
def strsV (l : List (List UInt8)) : List Value := l.map fun t => .string ⟨t.toArray⟩
theorem strsV_one (l : List (List UInt8)) : ∀ u ∈ strsV l, u.oneCell' = true := by
  intro u hu
  obtain ⟨_, _, rfl⟩ := List.mem_map.1 hu
  rfl
theorem signs_any (w : World) (hw : Signed w) :
    Calls Tryd.prog 13 #[] w fun e w' => (∃ v, e = .returned v ∧ w'.ownsRow w.heap.size 9 1 v 22 (strsV signL)) ∧ Below w.heap.size w w' := by
  obtain ⟨i0, hi, hz0, hz1, hz2⟩ := info_parts Tryd.info_str
  obtain ⟨w1, hmk, own1, gr1⟩ := run_make_own (P := Tryd.prog) w w.heap.size 29 9 i0 _ 1 Tryd.underlying29 hi hz0 hz1 .i64 .i64 22 (by rw [hz2]; omega) (by unfold maxLen; omega) (Nat.le_refl _)
  have hmk : (Instr.makeSlice 29 (.int .i64 0) (.int .i64 22)).run Tryd.prog w = _ := hmk
  have b1 : Below w.heap.size w w1 := (Below.refl _ _).grown gr1 (Nat.le_refl _) (fun k hk => by cases hk)
  obtain ⟨h0, t, fr, hg⟩ := hw
  have hg1 : w1.heap[0]? = some (.cells signCells t fr) := (b1.block 0 h0).trans hg
  go_enter Tryd.func13, Tryd.ntmps13
  go_wp2_with ((refine wpList_load_row rfl 46 _ rfl 0 rfl t signCells fr _ hg1 Tryd.underlying46 rfl (by kernel_rfl) ?_))
  go_loopw [1, 6] (fun o x w' => ∃ (j : Nat) (a : Option Addr) (c : Nat), j ≤ 22 ∧ x = .int .i64 (j : Nat) ∧ o = .slice a j c ∧ w'.ownsRow w.heap.size 9 1 (.slice a j c) j (strsV (signL.take j)) ∧ Below w.heap.size w w') (fun _ x _ => 22 - (intOf x).toNat)
  case atStart => exact ⟨0, _, _, by omega, rfl, rfl, own1, b1⟩
  case round =>
    obtain ⟨j, a, c, hj, rfl, rfl, own, bel⟩ := hrel
    by_cases hlt : j < 22
    · have d1 : decide (j < 22) = true := by simpa using hlt
      have hix := signCells_at j hlt
      have zb := bel.size
      have hz : j < signL.length := hlt
      go_wp2_with (first | fail | (at_builtin; refine append_any rfl (.tmp 9) (.tmp 11) 29 rfl w.heap.size 9 (.string ⟨#[]⟩) 16 Tryd.underlying29 Tryd.info_str rfl _ j (strsV (signL.take j)) rfl ?_ (some ⟨_, 0, none⟩) 1 1 [.string (signA j)] rfl ?_ ?_ ?_ ?_ ?_ ?_ ?_ ?_; exact own_belowS own ((Below.refl _ _).alloc (Nat.le_refl _) _); exact (fun h => nomatch h); exact rfl; (intro ad ha; obtain rfl := Option.some.inj ha; exact news_new _ _ _); (intro u hu; obtain rfl := List.mem_singleton.1 hu; rfl); (unfold maxLen; omega); omega; (first | omega | (simp; try omega)); intro v2 w2 own2 bel2; have B2 := (bel.alloc zb (.cells #[.string (signA j)] 9)).trans bel2; obtain ⟨a2, c2, rfl⟩ := own_sliceS own2))
      refine ⟨⟨j + 1, a2, c2, by omega, by simp, rfl, ?_, B2⟩, by simp [intOf]; omega⟩
      rw [List.take_succ_eq_append_getElem hz]
      have e : strsV (signL.take j ++ [signL[j]]) = strsV (signL.take j) ++ [.string (signA j)] := by
        unfold strsV
        rw [List.map_append]
        congr 1
        simp [signA, hz]
      rw [e]
      exact own2
    · have d1 : decide (j < 22) = false := by simpa using hlt
      obtain rfl : j = 22 := by omega
      go_wp2
      go_ret
      exact ⟨⟨_, rfl, own⟩, bel⟩
theorem refSigns_any (w : World) :
    Calls Tryd.prog 14 #[] w fun e w' => (∃ v, e = .returned v ∧ w'.ownsRow w.heap.size 9 1 v 22 (strsV signL)) ∧ Below w.heap.size w w' := by
  go_enter Tryd.func14, Tryd.ntmps14
  go_wp2
  go_ret
  refine ⟨⟨_, rfl, ?_⟩, (Below.refl _ _).alloc (Nat.le_refl _) _⟩
  exact World.ownsRow_lit w _ 22 (Nat.le_refl _) (by unfold maxLen; omega) rfl
end Go.Proofs.YtcljdlkebaflpaaDoor
