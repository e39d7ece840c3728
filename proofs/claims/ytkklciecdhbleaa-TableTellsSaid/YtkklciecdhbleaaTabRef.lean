/- Layer 4's reference: New, Key, Find (by gen04y.py). -/
import Derived.Test.YtkklciecdhbleaaTabN
import Derived.Test.YtkklciecdhbleaaTabK
namespace Go.Proofs.Ytkklciecdhbleaa
open Go.RowKit
set_option linter.unusedVariables false

theorem refnew_any (w : World) (most : Int) :
    Calls Try.prog 11 #[.int .i64 most] w fun e w' => e = .returned (if 0 ≤ most ∧ most ≤ 1048576 then .tuple #[.agg #[.int .i64 most, .slice none 0 0], .int .i64 0] else .tuple #[.agg #[.int .i64 0, .slice none 0 0], .int .i64 1]) ∧ Below w.heap.size w w' := by
  have bA : ∀ o : Obj, Below w.heap.size w (w.alloc o) := fun o => (Below.refl _ _).alloc (Nat.le_refl _) _
  by_cases h0 : most < 0
  · have d1 : decide (most < 0) = true := by simpa using h0
    rw [if_neg (by omega)]
    go_enter Try.func11, Try.ntmps11
    go_wp2_with fail
    exact bodyPost_ret (v := .tuple #[.agg #[.int .i64 0, .slice none 0 0], .int .i64 1]) (by simp [results, Try.results11, go_sem]) rfl ⟨rfl, bA _⟩
  · have d1 : decide (most < 0) = false := by simpa using h0
    by_cases h1 : 1048576 < most
    · have d2 : decide (1048576 < most) = true := by simpa using h1
      rw [if_neg (by omega)]
      go_enter Try.func11, Try.ntmps11
      go_wp2_with fail
      exact bodyPost_ret (v := .tuple #[.agg #[.int .i64 0, .slice none 0 0], .int .i64 1]) (by simp [results, Try.results11, go_sem]) rfl ⟨rfl, bA _⟩
    · have d2 : decide (1048576 < most) = false := by simpa using h1
      rw [if_pos (by omega)]
      go_enter Try.func11, Try.ntmps11
      go_wp2_with fail
      exact bodyPost_ret (v := .tuple #[.agg #[.int .i64 most, .slice none 0 0], .int .i64 0]) (by simp [results, Try.results11, go_sem]) rfl ⟨rfl, bA _⟩
theorem refkey_bad (w : World) (cap : Int) (a : Option Addr) (n c : Nat) (i : Int) (hi : i < 0 ∨ (n : Nat) ≤ i) :
    Calls Try.prog 20 #[.agg #[.int .i64 cap, .slice a n c], .int .i64 i] w fun e w' => e = .returned (.tuple #[.slice none 0 0, .int .i64 10]) ∧ Below w.heap.size w w' := by
  have bA : ∀ o : Obj, Below w.heap.size w (w.alloc o) := fun o => (Below.refl _ _).alloc (Nat.le_refl _) _
  by_cases h0 : i < 0
  · have d1 : decide (i < 0) = true := by simpa using h0
    go_enter Try.func20, Try.ntmps20
    go_wp2_with fail
    go_ret2
    exact ⟨rfl, bA _⟩
  · have d1 : decide (i < 0) = false := by simpa using h0
    have d2 : decide (((n : Nat) : Int) ≤ i) = true := by simp; omega
    go_enter Try.func20, Try.ntmps20
    go_wp2_with fail
    go_ret2
    exact ⟨rfl, bA _⟩
theorem refkey_ok (w : World) (cap : Int) (a : Option Addr) (n c : Nat) (ks : List (List Nat)) (h : RowsK w a n ks) (i : Nat) (hi : i < n) :
    Calls Try.prog 20 #[.agg #[.int .i64 cap, .slice a n c], .int .i64 (i : Nat)] w fun e w' => (∃ x l c, e = .returned (.tuple #[.slice x l c, .int .i64 0]) ∧ BytesAt w' x l c (ks.getD i [])) ∧ Below w.heap.size w w' := by
  have bA : ∀ o : Obj, Below w.heap.size w (w.alloc o) := fun o => (Below.refl _ _).alloc (Nat.le_refl _) _
  have hn := h.small
  obtain ⟨b, off, rfl, hb, hat⟩ := h.at_.resolve_left (by omega)
  obtain ⟨x, l, cx, h1, h2⟩ := hat i hi
  have h1' := ((bA (.cells #[.int .i64 cap, .slice (some ⟨b, off, none⟩) n c] 35)).cell (p := ⟨b, off + i, none⟩) hb).trans h1
  have d1 : decide (((i : Nat) : Int) < 0) = false := by simp
  have d2 : decide (n ≤ i) = false := by simp; omega
  have i1 : (i : Int) < (n : Int) := by omega
  go_enter Try.func20, Try.ntmps20
  go_wp2_with fail
  go_ret2
  exact ⟨⟨x, l, cx, rfl, h2.mono (bA _)⟩, bA _⟩
set_option maxHeartbeats 1000000 in
theorem reffind_le (w : World) (cap : Int) (a : Option Addr) (n c : Nat) (ks : List (List Nat)) (h : RowsK w a n ks) (ya : Option Addr) (yl yc : Nat) (key : List Nat) (hk : BytesAt w ya yl yc key) :
    Calls Try.prog 18 #[.agg #[.int .i64 cap, .slice a n c], .slice ya yl yc] w fun e w' => (∃ p : Nat, e = .returned (.tuple #[.int .i64 (p : Nat), .bool (decide (key ∈ ks))]) ∧ (key ∈ ks → p < ks.length ∧ ks.getD p [] = key) ∧ (key ∉ ks → p = 0)) ∧ Below w.heap.size w w' := by
  have hn := h.small
  have hl := h.len
  have HL := Lib.hid hl
  clear hl
  have b1 : Below w.heap.size w (w.alloc (.cells #[.int .i64 cap, .slice a n c] 35)) := (Below.refl _ _).alloc (Nat.le_refl _) _
  have gb := heap_alloc_new w (.cells #[.int .i64 cap, .slice a n c] 35)
  go_enter Try.func18, Try.ntmps18
  go_upto_region 1 with fail
  obtain ⟨W1, hv⟩ : ∃ v, w.alloc (.cells #[.int .i64 cap, .slice a n c] 35) = v := ⟨_, rfl⟩
  obtain ⟨g, hg⟩ : ∃ g, w.heap.size = g := ⟨_, rfl⟩
  rw [hv] at b1 gb ⊢
  have h1 := h.mono b1
  have hk1 := hk.mono b1
  have b2 : Below w.heap.size w W1 := b1
  rw [hg] at gb ⊢
  clear hv b1
  go_wp2_with fail
  go_loopw [6] (fun i w' => ∃ j : Nat, j ≤ n ∧ i = .int .i64 (j : Nat) ∧ (∀ i, i < j → ks.getD i [] ≠ key) ∧ Below W1.heap.size W1 w') (fun i _ => n - (intOf i).toNat)
  case atStart => exact ⟨0, Nat.zero_le _, rfl, fun i hi => by omega, Below.refl _ _⟩
  case round =>
    obtain ⟨j, hj, rfl, hall, bel⟩ := hrel
    have gr := (bel.block g (Array.getElem?_eq_some_iff.1 gb).1).trans gb
    have gw : wr.cell? ⟨g, 1, none⟩ = some (.slice a n c) := cell_of_row _ _ 1 _ _ _ gr
    by_cases hjl : j < n
    · have f1 : decide (j < n) = true := by simpa using hjl
      obtain ⟨ba, oa, rfl, hba, hia⟩ := (h1.mono bel).at_.resolve_left (by omega)
      obtain ⟨x1, l1, c1, e1, k1⟩ := hia j hjl
      have k2 := hk1.mono bel
      have hss := str_same k1.byte k2.byte
      obtain ⟨S1, hS1⟩ : ∃ S, strOfNums ((ks.getD j []).map fun (n : Nat) => (n : Int)) = S := ⟨_, rfl⟩
      obtain ⟨S2, hS2⟩ : ∃ S, strOfNums (key.map fun (n : Nat) => (n : Int)) = S := ⟨_, rfl⟩
      have v1 : ∀ x : Later wr.heap.size wr, (convert 23 9 (.slice x1 l1 c1)).run Try.prog x.w = .ok (.string S1) x.w := fun x => by
        rw [← hS1]
        exact (k1.mono x.below).conv 23 5 9 Try.underlying23 Try.underlying5 Try.underlying9
      have v2 : ∀ x : Later wr.heap.size wr, (convert 23 9 (.slice ya yl yc)).run Try.prog x.w = .ok (.string S2) x.w := fun x => by
        rw [← hS2]
        exact (k2.mono x.below).conv 23 5 9 Try.underlying23 Try.underlying5 Try.underlying9
      rw [hS1, hS2] at hss
      obtain ⟨E, hE⟩ : ∃ E, decide (ks.getD j [] = key) = E := ⟨_, rfl⟩
      rw [hE] at hss
      have q0 : ∀ x : Later wr.heap.size wr, x.w.cell? ⟨g, 1, none⟩ = some (.slice (some ⟨ba, oa, none⟩) n c) := fun x => cell_of_row _ _ 1 _ _ _ ((x.below.block g (Array.getElem?_eq_some_iff.1 gr).1).trans gr)
      have q1 : ∀ x : Later wr.heap.size wr, x.w.cell? ⟨ba, oa + j, none⟩ = some (.slice x1 l1 c1) := fun x => (x.below.cell (p := ⟨ba, oa + j, none⟩) hba).trans e1
      have HE := Lib.hid hE
      clear hS1 hS2 e1 k1 k2 hia hE
      go_wp2_with fail
      refine wp_region_later wr.heap.size wr (by kernel_rfl) (by kernel_rfl) (Below.refl _ _) ?_
      repeat (go_big_quiet_step (fail))
      refine wpQuiet_nil ?_
      intro _ hlat
      obtain ⟨x, rfl⟩ := hlat
      clear v1 v2 q0 q1
      have bq := below_then b2 (below_then bel x.below)
      cases E with
      | true =>
        go_wp2_with fail
        go_ret2
        have he : ks.getD j [] = key := of_decide_eq_true HE.out
        have hjl2 : j < ks.length := by rw [HL.out]; exact hjl
        have hm : key ∈ ks := he ▸ getD_mem hjl2
        exact ⟨⟨j, by rw [decide_eq_true hm]; rfl, fun _ => ⟨hjl2, he⟩, fun hno => absurd hm hno⟩, bq⟩
      | false =>
        go_wp2_with fail
        refine ⟨⟨j + 1, by omega, by simp, fun i hi => ?_, below_then bel x.below⟩, by simp [intOf]; omega⟩
        by_cases hij : i = j
        · rw [hij]; exact of_decide_eq_false HE.out
        · exact hall i (by omega)
    · have f1 : decide (j < n) = false := by simpa using hjl
      have hno : key ∉ ks := fun hm => by
        obtain ⟨i, hi, e⟩ := mem_getD hm
        have := HL.out
        exact hall i (by omega) e
      have HNo := Lib.hid hno
      clear hno
      go_wp2_with fail
      go_ret2
      exact ⟨⟨0, by rw [decide_eq_false HNo.out]; rfl, fun h => absurd h HNo.out, fun _ => rfl⟩, below_then b2 bel⟩
end Go.Proofs.Ytkklciecdhbleaa
