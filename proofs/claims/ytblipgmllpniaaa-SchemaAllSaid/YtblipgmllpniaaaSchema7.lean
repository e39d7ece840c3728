/- Contract of schema.spans. -/
import Derived.Test.YtblipgmllpniaaaSchema6
import Derived.OwnWalk
namespace Go.Proofs.Ytblipgmllpniaaa
open Go.RowKit
set_option linter.unusedVariables false

theorem Try.info_span : (Try.prog.info? 57).map (fun i => (i.zero, i.size, i.bytes)) = some (some (.agg #[.int .i64 0, .int .i64 0]), 2, 16) := by kernel_rfl
/-- The first ranges have been laid in a block. -/
def LaidF (w : World) (g len j : Nat) (fs : List (Int × Int)) : Prop :=
  ∃ cur : Array Value, w.heap[g]? = some (.cells cur 57 (0, 0)) ∧ cur.size = len * 2 ∧ ∀ k, k < j → cur[k * 2]? = some (.int .i64 (fs.getD k (0, 0)).1) ∧ cur[k * 2 + 1]? = some (.int .i64 (fs.getD k (0, 0)).2)
theorem LaidF.step {w : World} {g len j : Nat} {fs : List (Int × Int)} {lo hi : Int} (h : LaidF w g len j fs) (hj : j < len) (hf : fs.getD j (0, 0) = (lo, hi)) :
    LaidF ((w.setCell ⟨g, j * 2, none⟩ (.int .i64 lo)).setCell ⟨g, j * 2 + 1, none⟩ (.int .i64 hi)) g len (j + 1) fs := by
  obtain ⟨cur, hh, hs, hk⟩ := h
  refine ⟨_, Joins.block_setCell (Joins.block_setCell hh _) _, by simpa using hs, fun k hkj => ?_⟩
  by_cases e : k = j
  · subst e
    rw [hf]
    simp [Array.getElem?_setIfInBounds, hs]
    omega
  · obtain ⟨h1, h2⟩ := hk k (by omega)
    rw [← h1, ← h2]
    simp only [Array.getElem?_setIfInBounds]
    rw [if_neg (by omega), if_neg (by omega), if_neg (by omega), if_neg (by omega)]
    exact ⟨rfl, rfl⟩
theorem LaidF.alloc {w : World} {g len j : Nat} {fs : List (Int × Int)} (h : LaidF w g len j fs) (o : Obj) : LaidF (w.alloc o) g len j fs := by
  obtain ⟨cur, hh, hs, hk⟩ := h
  exact ⟨cur, (Below.heap_alloc _ _ _ (Array.getElem?_eq_some_iff.1 hh).1).trans hh, hs, hk⟩
set_option maxHeartbeats 4000000 in
theorem spans_any (w : World) (a : Option Addr) (len cap : Nat) (fs : List (Int × Int)) (hlen : len ≤ 40) (hl : FieldsAt w a len fs) :
    Calls Try.prog 27 #[.slice a len cap] w fun e w' => ∃ b c, e = .returned (.slice b len c) ∧ FieldsAt w' b len fs ∧ Below w.heap.size w w' := by
  have HL := Lib.hid hl.len_eq
  obtain ⟨i0, hi, hz0, hz1, hz2⟩ := info_parts Try.info_span
  go_enter Try.func27, Try.ntmps27
  go_wp2_with ((at_make; refine wpList_make_full _ rfl _ _ 58 rfl w.heap.size 57 i0 _ 2 Try.underlying58 hi hz0 hz1 .i64 .i64 _ _ len rfl rfl rfl rfl (by rw [hz2]; omega) (by unfold maxLen; omega) (Nat.le_refl _) ?_; intro w3 hown0 hgrow0))
  have gb : Below w.heap.size w w3 := (Below.refl _ _).grown hgrow0 (Nat.le_refl _) (by intro k hk; simp at hk)
  have z0 : LaidF w3 w.heap.size len 0 fs := by
    rcases hown0.2 with ⟨hv, _⟩ | ⟨g, cp, cur, hv, _, hh, _, _, hcs, _⟩
    · simp at hv
    · simp at hv
      obtain ⟨rfl, rfl⟩ := hv
      exact ⟨cur, hh, hcs, fun k hk => by omega⟩
  clear hown0 hgrow0
  obtain ⟨G, hG⟩ : ∃ G, G = w.heap.size := ⟨_, rfl⟩
  rw [← hG] at z0 ⊢
  have HG := Lib.hid hG
  clear hG
  go_loopw [11] (fun i wr => ∃ j : Nat, j ≤ len ∧ i = .int .i64 (j : Int) ∧ LaidF wr G len j fs ∧ Below w.heap.size w wr) (fun i _ => len - (intOf i).toNat)
  case atStart => exact ⟨0, by omega, rfl, z0, gb⟩
  case round =>
    obtain ⟨j, hj, rfl, hla, hbel⟩ := hrel
    clear z0 gb
    by_cases hlt : j < len
    · obtain ⟨bk, off, rfl, hb, hc⟩ := (hl.mono hbel).at_.resolve_left (by omega)
      obtain ⟨c1, c2⟩ := hc j hlt
      have hjlt : (j : Int) < (len : Int) := by omega
      obtain ⟨f, hf⟩ : ∃ f, fs.getD j (0, 0) = f := ⟨_, rfl⟩
      rw [hf] at c1 c2
      obtain ⟨lo, hi'⟩ := f
      have HF := Lib.hid hf
      have hG2 : G < wr.heap.size := by obtain ⟨cur, hh, _, _⟩ := hla; exact (Array.getElem?_eq_some_iff.1 hh).1
      have HLA := Lib.hid hla
      obtain ⟨cur, hh, hcs, _⟩ := hla
      have e0 : wr.cell? ⟨G, j * 2, none⟩ = some (cur[j * 2]'(by omega)) := by rw [cur_cell hh]; exact Array.getElem?_eq_getElem _
      have e1 : wr.cell? ⟨G, j * 2 + 1, none⟩ = some (cur[j * 2 + 1]'(by omega)) := by rw [cur_cell hh]; exact Array.getElem?_eq_getElem _
      have f0 : wr.frozen? ⟨G, j * 2, none⟩ = false := by simp [World.frozen?, hh]
      have f1 : wr.frozen? ⟨G, j * 2 + 1, none⟩ = false := by simp [World.frozen?, hh]
      generalize cur[j * 2]'(by omega) = v0 at e0
      generalize cur[j * 2 + 1]'(by omega) = v1 at e1
      clear hc hf hh hcs
      go_wp2
      go_roundw
      case rel =>
        refine ⟨j + 1, by omega, by go_num, ?_, ?_⟩
        · exact (HLA.out.step hlt HF.out).alloc _
        · exact ((hbel.setCell (Nat.le_of_eq HG.out.symm) _).setCell (Nat.le_of_eq HG.out.symm) _).alloc (by simpa [World.setCell] using hbel.size) _
      case measure => simp [intOf]; omega
    · obtain rfl : j = len := by omega
      go_wp2
      go_ret
      obtain ⟨cur, hh, hcs, hk⟩ := hla
      refine ⟨_, _, rfl, ⟨HL.out, by omega, hl.wf, .inr ⟨G, 0, rfl, (Array.getElem?_eq_some_iff.1 hh).1, fun i hi => ?_⟩⟩, hbel⟩
      obtain ⟨h1, h2⟩ := hk i hi
      rw [Nat.zero_add, cur_cell hh, cur_cell hh]
      exact ⟨h1, h2⟩
end Go.Proofs.Ytblipgmllpniaaa
