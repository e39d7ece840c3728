/- The document's All and Holds (by gen17u.py). -/
import Derived.Test.YtdeanjphcggbpaaSemTA
import Derived.Test.YtdeanjphcggbpaaSemTB
import Derived.Test.YtdeanjphcggbpaaSemTC
import Derived.Test.YtdeanjphcggbpaaSemTD
import Derived.Test.YtdeanjphcggbpaaSemTE
import Derived.Test.YtdeanjphcggbpaaSemTF
namespace Go.Proofs.Ytdeanjphcggbpaa
open Go.RowKit
set_option linter.unusedVariables false
set_option linter.unusedSimpArgs false
theorem allr_any : ∀ t, AllR t := by
  intro t
  induction t with
  | nil => exact fun w v wa wn wk l row h => h.elim
  | node op n pl len sub ih =>
    by_cases h2 : tyT (.node op n pl len sub) = 2
    · exact allr_lit _ h2
    · by_cases hop : 15 ≤ op ∧ op ≤ 24
      · rcases (by omega : op = 15 ∨ op = 16 ∨ op = 17 ∨ op = 18 ∨ op = 19 ∨ op = 20 ∨ op = 21 ∨ op = 22 ∨ op = 23 ∨ op = 24) with rfl | rfl | rfl | rfl | rfl | rfl | rfl | rfl | rfl | rfl
        · exact allr_15 n pl len sub ih h2
        · exact allr_16 n pl len sub ih h2
        · exact allr_17 n pl len sub ih h2
        · exact allr_18 n pl len sub ih h2
        · exact allr_19 n pl len sub ih h2
        · exact allr_20 n pl len sub ih h2
        · exact allr_21 n pl len sub ih h2
        · exact allr_22 n pl len sub ih h2
        · exact allr_23 n pl len sub ih h2
        · exact allr_24 n pl len sub ih h2
      · intro w v wa wn wk l row h hr hf hwn hl
        exfalso
        have h24 : op ≤ 24 := hf.1.2.1
        have hle : op < 15 := by omega
        have he : tyOf op len (cnt (fun i => tyT (sub i)) 0 len) (cnt (fun i => tyT (sub i)) 1 len) (cnt (fun i => tyT (sub i)) 2 len) (cnt (fun i => tyT (sub i)) 3 len) = 3 := hf.2.resolve_left h2
        unfold tyOf at he
        (repeat' split at he) <;> omega
theorem allr_at (t : T) (w : World) (v : Value) (wa : Option Addr) (wn wc l : Nat) (row : Nat → List Int) (h : TreeAt w t v) (hr : WordAt w wa wn row) (hf : FmP t) (hwn : wn ≤ 1000000) (hl : l < wn) :
    Calls Try.prog 11 #[v, .agg #[.slice wa wn wc, .int .i64 (l : Nat)]] w fun e w' => BoolsOut w wn (hT wn l row t) e w' ∧ Below w.heap.size w w' := allr_any t w v wa wn wc l row h hr hf hwn hl
theorem refholds_any (w : World) (t : T) (v : Value) (wa : Option Addr) (wn wk l : Nat) (row : Nat → List Int) (ht : TreeAt w t v) (hr : WordAt w wa wn row) (hf : FmP t) (hwn : wn ≤ 1000000) (hl : l < wn) :
    Calls Try.prog 13 #[v, .agg #[.slice wa wn wk, .int .i64 (l : Nat)]] w fun e w' => e = .returned (.bool (hT wn l row t 0)) ∧ Below w.heap.size w w' := by
  obtain ⟨op, n, pl, a, len, cap, rfl⟩ := ht.shape
  have b1 : Below w.heap.size w ((w.alloc (.cells #[.int .i64 op, .int .i64 n, .int .i64 pl, .slice a len cap] 24)).alloc (.cells #[.slice wa wn wk, .int .i64 (l : Nat)] 27)) := ((Below.refl _ _).alloc (Nat.le_refl _) _).alloc (by simp) _
  have hA := fun (z : World) (hz : Below w.heap.size w z) => allr_any t z _ wa wn wk l row (ht.mono hz) (hr.mono hz) hf hwn hl
  go_enter Try.func13, Try.ntmps13
  go_wp2_with fail
  refine (hA _ b1).mono ?_
  rintro e w1 ⟨⟨g, rfl, hg, hrow⟩, b2⟩
  have hc := World.rowIs.cell hrow (show 0 < wn by omega)
  have bt := below_then b1 b2
  obtain ⟨X, hX⟩ : ∃ X, hT wn l row t 0 = X := ⟨_, rfl⟩
  rw [hX] at hc
  have HX := Lib.hid hX
  have h1 : 0 < wn := by omega
  clear hX hA b1
  go_wp2_with fail
  go_ret
  exact ⟨by rw [HX.out]; rfl, bt⟩
end Go.Proofs.Ytdeanjphcggbpaa
