/- Rows of ranges: contracts of the document's Bits and Bytes. -/
import Derived.Test.YtblipgmllpniaaaSchema1
namespace Go.Proofs.Ytblipgmllpniaaa
open Go.RowKit
set_option linter.unusedVariables false

/-- What a walk is told of a row of ranges. -/
structure FieldsAt (w : World) (a : Option Addr) (len : Nat) (fs : List (Int × Int)) : Prop where
  len_eq : fs.length = len
  small : len ≤ 9223372036854775807
  wf : ∀ f ∈ fs, (-9223372036854775808 ≤ f.1 ∧ f.1 ≤ 9223372036854775807) ∧ (-9223372036854775808 ≤ f.2 ∧ f.2 ≤ 9223372036854775807)
  at_ : len = 0 ∨ ∃ b off, a = some ⟨b, off, none⟩ ∧ b < w.heap.size ∧ ∀ i, i < len → w.cell? ⟨b, off + i * 2, none⟩ = some (.int .i64 (fs.getD i (0, 0)).1) ∧ w.cell? ⟨b, off + i * 2 + 1, none⟩ = some (.int .i64 (fs.getD i (0, 0)).2)
theorem FieldsAt.mono {w w' : World} {a : Option Addr} {len : Nat} {fs : List (Int × Int)} (h : FieldsAt w a len fs) (hb : Below w.heap.size w w') : FieldsAt w' a len fs := by
  refine ⟨h.1, h.2, h.3, ?_⟩
  rcases h.4 with h4 | ⟨b, off, ha, hlt, hc⟩
  · exact .inl h4
  · exact .inr ⟨b, off, ha, Nat.lt_of_lt_of_le hlt hb.size, fun i hi => by rw [hb.cell (p := ⟨b, off + i * 2, none⟩) hlt, hb.cell (p := ⟨b, off + i * 2 + 1, none⟩) hlt]; exact hc i hi⟩
theorem getD_mem {fs : List (Int × Int)} {i : Nat} (h : i < fs.length) : fs.getD i (0, 0) ∈ fs := by
  have e : fs.getD i (0, 0) = fs[i] := by simp [h]
  rw [e]; exact List.getElem_mem h
/-- How many bits ranges have. -/
def bitsF (fs : List (Int × Int)) : Nat := fs.foldl (fun n f => n + wideF f) 0
theorem bitsF_snoc (fs : List (Int × Int)) (f : Int × Int) : bitsF (fs ++ [f]) = bitsF fs + wideF f := by simp [bitsF]
theorem bitsF_step (fs : List (Int × Int)) (j : Nat) (h : j < fs.length) : bitsF (fs.take (j + 1)) = bitsF (fs.take j) + wideF (fs.getD j (0, 0)) := by
  rw [List.take_succ_eq_append_getElem h, bitsF_snoc]; simp [h]
theorem wideF_le (f : Int × Int) (h : RightF f) : wideF f ≤ 16 := by
  unfold wideF
  obtain ⟨h1, h2, h3, h4⟩ := h
  exact Lib.bitLen_le _ 16 (by omega) (by simp; omega)
theorem bitsF_le (fs : List (Int × Int)) (h : ∀ f ∈ fs, RightF f) : ∀ j, j ≤ fs.length → bitsF (fs.take j) ≤ 16 * j
  | 0, _ => by simp [bitsF]
  | j + 1, hj => by
    have := bitsF_le fs h j (by omega)
    rw [bitsF_step fs j (by omega)]
    have := wideF_le _ (h _ (getD_mem (fs := fs) (i := j) (by omega)))
    omega
set_option maxHeartbeats 2000000 in
theorem refbits_any (w : World) (a : Option Addr) (len cap : Nat) (fs : List (Int × Int)) (hr : ∀ f ∈ fs, RightF f) (hlen : len ≤ 40) (hl : FieldsAt w a len fs) :
    Calls Try.prog 19 #[.slice a len cap] w fun e w' => e = .returned (.int .i64 (bitsF fs : Nat)) ∧ Below w.heap.size w w' := by
  have HL := Lib.hid hl.len_eq
  go_enter Try.func19, Try.ntmps19
  go_wp2
  go_loopw [3, 4] (fun n i wr => ∃ j M : Nat, j ≤ len ∧ M ≤ 1000 ∧ i = .int .i64 (j : Int) ∧ n = .int .i64 (M : Int) ∧ Hid (M = bitsF (fs.take j)) ∧ Below w.heap.size w wr) (fun _ i _ => len - (intOf i).toNat)
  case atStart => exact ⟨0, 0, by omega, by omega, rfl, rfl, by simp [Hid, bitsF], Below.refl _ _⟩
  case round =>
    obtain ⟨j, M, hj, hM, rfl, rfl, hMe, hbel⟩ := hrel
    by_cases hlt : j < len
    · obtain ⟨b, off, rfl, hb, hc⟩ := (hl.mono hbel).at_.resolve_left (by omega)
      obtain ⟨c1, c2⟩ := hc j hlt
      have hjl : j < fs.length := by rw [HL.out]; exact hlt
      have hrf := hr _ (getD_mem hjl)
      have hst := bitsF_step fs j hjl
      have hw16 := wideF_le _ hrf
      have hle := bitsF_le fs hr j (by omega)
      generalize fs.getD j (0, 0) = f at *
      obtain ⟨lo, hi⟩ := f
      have HST := Lib.hid hst
      have hM2 : M ≤ 16 * j := by rw [hMe.out]; exact hle
      have hjlt : (j : Int) < (len : Int) := by omega
      clear hst hle hc
      go_wp2_with fail
      refine (schemarefwide_any _ lo hi hrf).mono ?_
      rintro e w2 ⟨rfl, b2⟩
      go_wp2
      go_roundw
      case rel => exact ⟨j + 1, M + wideF (lo, hi), by omega, by omega, by go_num, by go_num, by show M + wideF (lo, hi) = bitsF (fs.take (j + 1)); rw [HST.out, hMe.out], hbel.trans (b2.mono hbel.size)⟩
      case measure => simp [intOf]; omega
    · obtain rfl : j = len := by omega
      go_wp2
      go_ret
      have hm := hMe.out
      rw [List.take_of_length_le (by rw [HL.out]; omega)] at hm
      rw [← hm]
      exact ⟨rfl, hbel⟩
end Go.Proofs.Ytblipgmllpniaaa
