/- Formulas that are made are formulas; the head of all statements of layer 17 (by gen17k.py). -/
import Derived.Test.YtogdfjcgcdbnaaaSemF
import Derived.Deep.RegionHeld3
namespace Go.Proofs.Ytogdfjcgcdbnaaa
open Go.RowKit
set_option linter.unusedVariables false
set_option linter.unusedSimpArgs false
theorem tyT_un (op : Int) (t : T) : tyT (T.un op t) = tyOf op 1 (cnt (fun _ => tyT t) 0 1) (cnt (fun _ => tyT t) 1 1) (cnt (fun _ => tyT t) 2 1) (cnt (fun _ => tyT t) 3 1) := rfl
theorem FmP.not {t : T} (h : FmP t) : FmP (T.un 15 t) := by
  refine ⟨⟨by decide, by decide, rfl, fun i _ => h.1⟩, ?_⟩
  rw [tyT_un]
  rcases h.2 with h2 | h2 <;> rw [h2] <;> decide
theorem FmP.time {t : T} (h : FmP t) {op : Int} (ho : op = 20 ∨ op = 21 ∨ op = 22) : FmP (T.un op t) := by
  rcases ho with rfl | rfl | rfl
  all_goals
    refine ⟨⟨by decide, by decide, rfl, fun i _ => h.1⟩, ?_⟩
    rw [tyT_un]
    rcases h.2 with h2 | h2 <;> rw [h2] <;> decide
theorem tyT_bin (op : Int) (s t : T) : tyT (T.bin op s t) = tyOf op 2 (cnt (fun i => tyT (if i = 0 then s else t)) 0 2) (cnt (fun i => tyT (if i = 0 then s else t)) 1 2) (cnt (fun i => tyT (if i = 0 then s else t)) 2 2) (cnt (fun i => tyT (if i = 0 then s else t)) 3 2) := rfl
theorem FmP.two {s t : T} (hs : FmP s) (ht : FmP t) {op : Int} (ho : op = 16 ∨ op = 17 ∨ op = 23 ∨ op = 24) : FmP (T.bin op s t) := by
  have hsub : ∀ i, i < 2 → MayP (if i = 0 then s else t) := fun i _ => by
    split
    · exact hs.1
    · exact ht.1
  rcases ho with rfl | rfl | rfl | rfl
  all_goals
    refine ⟨⟨by decide, by decide, rfl, hsub⟩, ?_⟩
    rw [tyT_bin]
    unfold cnt cnt cnt
    simp only [if_pos, if_neg, Nat.one_ne_zero, reduceIte]
    rcases hs.2 with h2 | h2 <;> rcases ht.2 with h3 | h3 <;> rw [h2, h3] <;> decide
/-- A leaf. -/
def T.leaf (op n : Int) : T := .node op n 0 0 fun _ => .nil
theorem TreeAt.leaf (w : World) {op n : Int} (ho : -9223372036854775808 ≤ op ∧ op ≤ 9223372036854775807) (hn : -9223372036854775808 ≤ n ∧ n ≤ 9223372036854775807) : TreeAt w (T.leaf op n) (.agg #[.int .i64 op, .int .i64 n, .int .i64 0, .slice none 0 0]) :=
  ⟨none, 0, rfl, ho, hn, by decide, by decide, fun _ => ⟨rfl, rfl⟩, .inl rfl⟩
theorem FmP.yes : FmP (T.leaf 13 0) := ⟨⟨by decide, by decide, rfl, fun i hi => absurd hi (Nat.not_lt_zero i)⟩, .inl rfl⟩
def isN (n : Int) : T := T.bin 7 (T.leaf 2 0) (T.leaf 1 n)
theorem FmP.isN (n : Int) : FmP (isN n) := by
  refine ⟨⟨by decide, by decide, rfl, fun i hi => ?_⟩, .inl rfl⟩
  show MayP (if i = 0 then T.leaf 2 0 else T.leaf 1 n)
  split
  · exact ⟨by decide, by decide, rfl, fun i hi => absurd hi (Nat.not_lt_zero i)⟩
  · exact ⟨by decide, by decide, rfl, fun i hi => absurd hi (Nat.not_lt_zero i)⟩
/-- The example's word. -/
def rowX (i : Nat) : List Int := if i = 0 then [0] else [1]
theorem isN_at (n : Int) (i : Nat) : hT 2 1 rowX (isN n) i = decide ((if i = 0 then 0 else 1 : Int) = n) := by
  have h : evT (rowX i) (isN n) = b01 ((if i = 0 then 0 else 1 : Int) = n) := by
    by_cases hi : i = 0
    · rw [hi]; rfl
    · unfold rowX
      rw [if_neg hi, if_neg hi]; rfl
  show (if (7 : Int) < 15 then decide (evT (rowX i) (isN n) = 1) else _) = _
  rw [if_pos (by decide), h]
  obtain ⟨x, hx⟩ : ∃ x : Int, (if i = 0 then 0 else 1 : Int) = x := ⟨_, rfl⟩
  rw [hx]
  by_cases he : x = n
  · subst he; simp [b01]
  · simp [b01, he]
theorem hT_un20 (t : T) (i : Nat) : hT 2 1 rowX (T.un 20 t) i = hT 2 1 rowX t (nextW 2 1 i) := hT_20 _ _ _ _ _ _ _ _
theorem hT_un21 (t : T) (i : Nat) : hT 2 1 rowX (T.un 21 t) i = untU 2 1 (fun _ => true) (hT 2 1 rowX t) i := hT_21 _ _ _ _ _ _ _ _
theorem hT_un22 (t : T) (i : Nat) : hT 2 1 rowX (T.un 22 t) i = relU 2 1 (fun _ => false) (hT 2 1 rowX t) i := hT_22 _ _ _ _ _ _ _ _
theorem shX (i : Nat) (hi : i < 2) : hT 2 1 rowX (T.un 20 (isN 1)) i = true := by
  rw [hT_un20, isN_at]
  rcases (by omega : i = 0 ∨ i = 1) with rfl | rfl <;> decide
theorem only0 (b : Nat → Bool) (h1 : b 1 = false) : untU 2 1 (fun _ => true) b 1 = false := by
  cases h : untU 2 1 (fun _ => true) b 1 with
  | false => rfl
  | true =>
    have := untU_least (R := fun i => if i = 0 then (b 0 || false) else false) (n := 2) (l := 1) (a := fun _ => true) (b := b) (by decide) (fun i hi => by
      rcases (by omega : i = 0 ∨ i = 1) with rfl | rfl
      · show (b 0 || false) = (b 0 || (true && _)); simp [nextW]
      · show false = (b 1 || (true && _)); simp [nextW, h1]) 1 (by decide) h
    simp at this
theorem shFG : hT 2 1 rowX (T.un 21 (T.un 22 (isN 1))) 0 = true := by
  have hG : hT 2 1 rowX (T.un 22 (isN 1)) 1 = true := by
    rw [hT_un22]
    unfold relU
    rw [show (fun _ : Nat => !false) = fun _ => true from rfl, only0 _ (by rw [isN_at]; decide)]
    rfl
  rw [hT_un21, untU_fix, show nextW 2 1 0 = 1 from rfl, untU_fix (i := 1), hG]
  simp
theorem shGF : hT 2 1 rowX (T.un 22 (T.un 21 (isN 0))) 0 = false := by
  have hF : hT 2 1 rowX (T.un 21 (isN 0)) 1 = false := by
    rw [hT_un21]
    exact only0 _ (by rw [isN_at]; decide)
  rw [hT_un22, relU_fix, show nextW 2 1 0 = 1 from rfl, relU_fix (i := 1), hF]
  simp
set_option maxRecDepth 20000 in
theorem sh1_any (w : World) (n : Int) (hn : -9223372036854775808 ≤ n ∧ n ≤ 9223372036854775807) :
    Calls Try.prog 24 #[.int .i64 n] w fun e w' => TreeOut (isN n) e w' ∧ Below w.heap.size w w' := by
  go_enter Try.func24, Try.ntmps24
  go_wp2_with fail
  have h1 := heap_alloc_new (w.alloc (.cells #[.int .i64 7, .int .i64 0, .int .i64 0, .slice (some ⟨w.heap.size + 1, 0, none⟩) 2 2] 24)) (.cells #[.int .i64 2, .int .i64 0, .int .i64 0, .slice none 0 0, .int .i64 1, .int .i64 n, .int .i64 0, .slice none 0 0] 24)
  rw [World.size_alloc] at h1
  have h0 := (Below.heap_alloc (w.alloc (.cells #[.int .i64 7, .int .i64 0, .int .i64 0, .slice (some ⟨w.heap.size + 1, 0, none⟩) 2 2] 24)) (.cells #[.int .i64 2, .int .i64 0, .int .i64 0, .slice none 0 0, .int .i64 1, .int .i64 n, .int .i64 0, .slice none 0 0] 24) w.heap.size (by simp)).trans (heap_alloc_new w _)
  refine bodyPost_ret (fn := Try.f24) (v := .agg #[.int .i64 7, .int .i64 0, .int .i64 0, .slice (some ⟨w.heap.size + 1, 0, none⟩) 2 2]) ?_ rfl ⟨⟨_, rfl, TreeAt.bin (by decide) h1 (TreeAt.leaf _ (by decide) (by decide)) (TreeAt.leaf _ (by decide) hn)⟩, ((Below.refl _ _).alloc (Nat.le_refl _) _).alloc (by simp) _⟩
  exact results_cell_row (fn := Try.f24) rfl _ _ _ _ _ _ _ rfl h0 Try.underlying24 rfl (by kernel_rfl)
set_option maxRecDepth 20000 in
theorem sh2_any (w : World) (op : Int) (t : T) (v : Value) (ho : -9223372036854775808 ≤ op ∧ op ≤ 9223372036854775807) (ht : TreeAt w t v) :
    Calls Try.prog 25 #[.int .i64 op, v] w fun e w' => TreeOut (T.un op t) e w' ∧ Below w.heap.size w w' := by
  obtain ⟨o, n, pl, a, len, cap, rfl⟩ := ht.shape
  have H3 := Lib.hid (heap3 w #[.int .i64 o, .int .i64 n, .int .i64 pl, .slice a len cap] #[.int .i64 op, .int .i64 0, .int .i64 0, .slice (some ⟨w.heap.size + 1 + 1, 0, none⟩) 1 1] #[.int .i64 o, .int .i64 n, .int .i64 pl, .slice a len cap] 24 24 24)
  have HT := Lib.hid ht
  clear ht
  go_enter Try.func25, Try.ntmps25
  go_wp2_with fail
  obtain ⟨h1, h2, hb⟩ := H3.out
  refine bodyPost_ret (fn := Try.f25) (v := .agg #[.int .i64 op, .int .i64 0, .int .i64 0, .slice (some ⟨w.heap.size + 1 + 1, 0, none⟩) 1 1]) ?_ rfl ⟨⟨_, rfl, TreeAt.un ho h2 (HT.out.mono hb)⟩, hb⟩
  exact results_cell_row (fn := Try.f25) rfl _ _ _ _ _ _ _ rfl h1 Try.underlying24 rfl (by kernel_rfl)
end Go.Proofs.Ytogdfjcgcdbnaaa
