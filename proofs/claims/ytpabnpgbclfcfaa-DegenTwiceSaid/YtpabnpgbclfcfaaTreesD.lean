/- The document's Type, Lit and Formula on trees (by gen17b.py). -/
import Derived.Test.YtpabnpgbclfcfaaTreesC
import Derived.OwnWalk
namespace Go.Proofs.Ytpabnpgbclfcfaa
open Go.RowKit
set_option linter.unusedVariables false
set_option linter.unusedSimpArgs false
/-- How many of the first j are y. -/
def cnt (f : Nat → Nat) (y : Nat) : Nat → Nat
  | 0 => 0
  | j + 1 => cnt f y j + if f j = y then 1 else 0
theorem cnt_le (f : Nat → Nat) (y : Nat) : ∀ j, cnt f y j ≤ j
  | 0 => Nat.le_refl _
  | j + 1 => by
    have := cnt_le f y j
    unfold cnt
    split <;> omega
theorem cnt_two (f : Nat → Nat) {x y : Nat} (h : x ≠ y) : ∀ j, cnt f x j + cnt f y j ≤ j
  | 0 => Nat.le_refl _
  | j + 1 => by
    have := cnt_two f h j
    unfold cnt
    split <;> split <;> omega
theorem cnt_all {f : Nat → Nat} {y : Nat} : ∀ {j}, cnt f y j = j → ∀ i, i < j → f i = y
  | 0, _, i, hi => absurd hi (Nat.not_lt_zero i)
  | j + 1, h, i, hi => by
    have h1 := cnt_le f y j
    unfold cnt at h
    split at h
    · rename_i hf
      rcases Nat.lt_succ_iff_lt_or_eq.1 hi with h2 | rfl
      · exact cnt_all (by omega) i h2
      · exact hf
    · omega
theorem cnt_both {f : Nat → Nat} : ∀ {j}, cnt f 2 j + cnt f 3 j = j → ∀ i, i < j → f i = 2 ∨ f i = 3
  | 0, _, i, hi => absurd hi (Nat.not_lt_zero i)
  | j + 1, h, i, hi => by
    have h1 := cnt_two f (show (2 : Nat) ≠ 3 by decide) j
    unfold cnt at h
    split at h <;> split at h
    · omega
    · rename_i hf _
      rcases Nat.lt_succ_iff_lt_or_eq.1 hi with h2 | rfl
      · exact cnt_both (by omega) i h2
      · exact .inl hf
    · rename_i _ hf
      rcases Nat.lt_succ_iff_lt_or_eq.1 hi with h2 | rfl
      · exact cnt_both (by omega) i h2
      · exact .inr hf
    · omega
theorem cnt_zero_mono {f : Nat → Nat} {y j : Nat} : ∀ {m}, j < m → f j = y → cnt f y m ≠ 0
  | 0, h, _ => absurd h (Nat.not_lt_zero j)
  | m + 1, h, hf => by
    unfold cnt
    rcases Nat.lt_succ_iff_lt_or_eq.1 h with h2 | rfl
    · have := cnt_zero_mono h2 hf
      omega
    · rw [if_pos hf]; omega
/-- The type, by what a part is and by how many of its parts are of which type. -/
def tyOf (op : Int) (len Z I B T : Nat) : Nat :=
  if Z ≠ 0 then 0 else if op ≤ 6 then (if I = len then 1 else 0) else if op ≤ 12 then (if I = len then 2 else 0) else if op ≤ 14 then 2 else if op ≤ 19 then (if B = len then 2 else if B + T = len then 3 else 0) else if B + T = len then 3 else 0
/-- A tree's type; 0: it has none. -/
def tyT : T → Nat
  | .nil => 0
  | .node op n pl len sub => tyOf op len (cnt (fun i => tyT (sub i)) 0 len) (cnt (fun i => tyT (sub i)) 1 len) (cnt (fun i => tyT (sub i)) 2 len) (cnt (fun i => tyT (sub i)) 3 len)
theorem tyOf_le (op : Int) (len Z I B T : Nat) : tyOf op len Z I B T ≤ 3 := by
  unfold tyOf
  repeat' split
  all_goals omega
theorem tyT_le : ∀ t, tyT t ≤ 3
  | .nil => Nat.zero_le _
  | .node _ _ _ _ _ => tyOf_le _ _ _ _ _ _
def TyR (t : T) (e : Ending) : Prop := ∃ c p : Int, e = .returned (.tuple #[.int .i64 (tyT t : Nat), .int .i64 c, .int .i64 p]) ∧ c = (if tyT t = 0 then 4 else 0)
set_option maxRecDepth 20000 in
set_option maxHeartbeats 1000000 in
theorem type_any : ∀ (t : T) (w : World) (v : Value), TreeAt w t v →
    Calls Try.prog 26 #[v] w fun e w' => TyR t e ∧ Below w.heap.size w w' := by
  intro t
  induction t with
  | nil => exact fun w v h => h.elim
  | node op n pl len sub ih =>
    rintro w v ⟨a, cap, rfl, ho, hn, hp, hl, hnone, hat⟩
    obtain ⟨f, hf⟩ : ∃ f, (fun i => tyT (sub i)) = f := ⟨_, rfl⟩
    have hty : tyT (.node op n pl len sub) = tyOf op len (cnt f 0 len) (cnt f 1 len) (cnt f 2 len) (cnt f 3 len) := by rw [← hf]; rfl
    have HF : ∀ i, tyT (sub i) = f i := fun i => by rw [← hf]
    clear hf
    have A := (Below.refl w.heap.size w).alloc (Nat.le_refl _) (.cells #[.int .i64 op, .int .i64 n, .int .i64 pl, .slice a len cap] 40)
    have pt : (w.alloc (.cells #[.int .i64 op, .int .i64 n, .int .i64 pl, .slice a len cap] 40)).heap[w.heap.size]? = some (.cells #[.int .i64 op, .int .i64 n, .int .i64 pl, .slice a len cap] 40 (0, 0)) := heap_alloc_new _ _
    go_enter Try.func26, Try.ntmps26
    go_upto_region 1 with fail
    obtain ⟨v1, hv⟩ : ∃ v, w.alloc (.cells #[.int .i64 op, .int .i64 n, .int .i64 pl, .slice a len cap] 40) = v := ⟨_, rfl⟩
    obtain ⟨gt, hg⟩ : ∃ g, w.heap.size = g := ⟨_, rfl⟩
    rw [hv] at pt A ⊢
    rw [hg] at pt ⊢
    have bt := A
    have hgw : w.heap.size ≤ gt := Nat.le_of_eq hg
    clear hv hg A
    have HT := Lib.hid hty
    clear hty
    go_wp2_with fail
    go_loopw [5, 6, 7, 8] (fun x y z i w' => ∃ (j I B T : Nat), j ≤ len ∧ i = .int .i64 (j : Nat) ∧ x = .int .i64 (I : Nat) ∧ y = .int .i64 (B : Nat) ∧ z = .int .i64 (T : Nat) ∧ cnt f 0 j = 0 ∧ cnt f 1 j = I ∧ cnt f 2 j = B ∧ cnt f 3 j = T ∧ w'.heap[gt]? = some (.cells #[.int .i64 op, .int .i64 n, .int .i64 pl, .slice a len cap] 40 (0, 0)) ∧ Below w.heap.size w w') (fun x y z i _ => len - (intOf i).toNat)
    case atStart => exact ⟨0, 0, 0, 0, Nat.zero_le _, rfl, rfl, rfl, rfl, rfl, rfl, rfl, rfl, pt, bt⟩
    case round =>
      clear pt bt
      obtain ⟨j, I, B, T, hj, rfl, rfl, rfl, rfl, hZ, hI, hB, hT, pt, bt⟩ := hrel
      have i1 := cnt_le f 1 j
      have i2 := cnt_two f (show (2 : Nat) ≠ 3 by decide) j
      rw [hI] at i1
      rw [hB, hT] at i2
      have HZ := Lib.hid hZ
      have HI := Lib.hid hI
      have HB := Lib.hid hB
      have HT3 := Lib.hid hT
      clear hZ hI hB hT
      have c0 : wr.cell? ⟨gt, 0, none⟩ = some (.int .i64 op) := cell_of_row _ _ 0 _ _ _ pt
      have c2 : wr.cell? ⟨gt, 2, none⟩ = some (.int .i64 pl) := cell_of_row _ _ 2 _ _ _ pt
      have c3 : wr.cell? ⟨gt, 3, none⟩ = some (.slice a len cap) := cell_of_row _ _ 3 _ _ _ pt
      by_cases hjl : j < len
      · have f1 : decide (j < len) = true := by simpa using hjl
        obtain ⟨b, off, rfl, hlt, hi⟩ := hat.resolve_left (by omega)
        obtain ⟨o', n', p', a', l', c', g0, g1, g2, g3, g4⟩ := hi j hjl
        have y0 : wr.cell? ⟨b, off + j * 4, none⟩ = some (.int .i64 o') := (bt.cell (p := ⟨b, _, none⟩) hlt).trans g0
        have y1 : wr.cell? ⟨b, off + j * 4 + 1, none⟩ = some (.int .i64 n') := (bt.cell (p := ⟨b, _, none⟩) hlt).trans g1
        have y2 : wr.cell? ⟨b, off + j * 4 + 2, none⟩ = some (.int .i64 p') := (bt.cell (p := ⟨b, _, none⟩) hlt).trans g2
        have y3 : wr.cell? ⟨b, off + j * 4 + 3, none⟩ = some (.slice a' l' c') := (bt.cell (p := ⟨b, _, none⟩) hlt).trans g3
        go_wp2_with fail
        refine (ih j _ _ (g4.mono bt)).mono ?_
        rintro e w2 ⟨⟨c, p, rfl, hc⟩, b2⟩
        have pt2 := (b2.block gt (Array.getElem?_eq_some_iff.1 pt).1).trans pt
        have bt2 := below_then bt b2
        have hle := tyT_le (sub j)
        rw [HF j] at hc hle ⊢
        obtain ⟨q, hq⟩ : ∃ q, f j = q := ⟨_, rfl⟩
        rw [hq] at hc hle ⊢
        have HQ := Lib.hid hq
        clear hq y0 y1 y2 y3 c0 c2 c3
        rcases (by omega : q = 0 ∨ q = 1 ∨ q = 2 ∨ q = 3) with rfl | rfl | rfl | rfl
        · obtain rfl : c = 4 := by simpa using hc
          clear hc
          go_wp2_with fail
          go_ret3
          have hne : cnt f 0 len ≠ 0 := cnt_zero_mono hjl HQ.out
          have hz : tyT (.node op n pl len sub) = 0 := by rw [HT.out]; unfold tyOf; rw [if_pos hne]
          exact ⟨⟨4, p, by rw [hz]; rfl, by rw [hz]; rfl⟩, bt2⟩
        · obtain rfl : c = 0 := by simpa using hc
          clear hc
          go_wp2_with fail
          exact ⟨⟨j + 1, I + 1, B, T, by omega, by simp, by simp, by simp, by simp, (by unfold cnt; rw [HZ.out, HQ.out]; rfl), (by unfold cnt; rw [HI.out, HQ.out]; rfl), (by unfold cnt; rw [HB.out, HQ.out]; rfl), (by unfold cnt; rw [HT3.out, HQ.out]; rfl), pt2, bt2⟩, by simp [intOf]; omega⟩
        · obtain rfl : c = 0 := by simpa using hc
          clear hc
          go_wp2_with fail
          exact ⟨⟨j + 1, I, B + 1, T, by omega, by simp, by simp, by simp, by simp, (by unfold cnt; rw [HZ.out, HQ.out]; rfl), (by unfold cnt; rw [HI.out, HQ.out]; rfl), (by unfold cnt; rw [HB.out, HQ.out]; rfl), (by unfold cnt; rw [HT3.out, HQ.out]; rfl), pt2, bt2⟩, by simp [intOf]; omega⟩
        · obtain rfl : c = 0 := by simpa using hc
          clear hc
          go_wp2_with fail
          exact ⟨⟨j + 1, I, B, T + 1, by omega, by simp, by simp, by simp, by simp, (by unfold cnt; rw [HZ.out, HQ.out]; rfl), (by unfold cnt; rw [HI.out, HQ.out]; rfl), (by unfold cnt; rw [HB.out, HQ.out]; rfl), (by unfold cnt; rw [HT3.out, HQ.out]; rfl), pt2, bt2⟩, by simp [intOf]; omega⟩
      · have f1 : decide (j < len) = false := by simpa using hjl
        obtain rfl : len = j := by omega
        have hZ := HZ.out
        have hI := HI.out
        have hB := HB.out
        have hT := HT3.out
        have ht := HT.out
        rw [hZ, hI, hB, hT] at ht
        have HTY := Lib.hid ht
        clear hZ hI hB hT ht HZ HI HB HT3 HT HF f1
        go_upto_region 16 with fail
        have HKP := Lib.hid HTY
        by_cases k1 : op ≤ 6
        · have a1 : decide (op ≤ 6) = true := by simpa using k1
          by_cases e1 : I = len
          ·
            have hy : tyT (.node op n pl len sub) = 1 := by rw [HTY.out]; unfold tyOf; (repeat' split) <;> omega
            have HY := Lib.hid hy
            clear hy
            have q1 : decide ((I : Int) = (len : Int)) = true := by simp; omega
            have q2 : ((I : Int) == (len : Int)) = true := by simp; omega
            have q3 : decide (I = len) = true := by simp; omega
            have q4 : (I == len) = true := by simp; omega
            clear e1
            go_wp2_with fail
            go_ret3
            exact ⟨⟨0, 0, by rw [HY.out]; rfl, by rw [HY.out]; rfl⟩, bt⟩
          ·
            have hy : tyT (.node op n pl len sub) = 0 := by rw [HTY.out]; unfold tyOf; (repeat' split) <;> omega
            have HY := Lib.hid hy
            clear hy
            have q1 : decide ((I : Int) = (len : Int)) = false := by simp; omega
            have q2 : ((I : Int) == (len : Int)) = false := by simp; omega
            have q3 : decide (I = len) = false := by simp; omega
            have q4 : (I == len) = false := by simp; omega
            clear e1
            have a2 : decide (7 ≤ op) = false := by simp; omega
            have a3 : decide (15 ≤ op) = false := by simp; omega
            have a4d : decide (op = 13) = false := by simp; omega
            have a4e : (op == 13) = false := by simp; omega
            have a5d : decide (op = 14) = false := by simp; omega
            have a5e : (op == 14) = false := by simp; omega
            have c2L : ∀ z : Later wr.heap.size wr, z.w.cell? ⟨gt, 2, none⟩ = some (.int .i64 pl) := fun z => cell_of_row _ _ 2 _ _ _ ((z.below.block gt (Array.getElem?_eq_some_iff.1 pt).1).trans pt)
            go_wp2_with fail
            refine wp_region_later wr.heap.size wr (by kernel_rfl) (by kernel_rfl) (Below.refl _ _) ?_
            repeat (go_big_quiet_step (fail))
            refine wpQuiet_nil ?_
            intro _ hlat
            obtain ⟨z, rfl⟩ := hlat
            go_wp2_with fail
            go_ret3
            exact ⟨⟨4, pl, by rw [HY.out]; rfl, by rw [HY.out]; rfl⟩, below_then bt z.below⟩
        have a1 : decide (op ≤ 6) = false := by simpa using k1
        have a0 : decide (7 ≤ op) = true := by simp; omega
        by_cases k2 : op ≤ 12
        · have a2 : decide (op ≤ 12) = true := by simpa using k2
          by_cases e1 : I = len
          ·
            have hy : tyT (.node op n pl len sub) = 2 := by rw [HTY.out]; unfold tyOf; (repeat' split) <;> omega
            have HY := Lib.hid hy
            clear hy
            have q1 : decide ((I : Int) = (len : Int)) = true := by simp; omega
            have q2 : ((I : Int) == (len : Int)) = true := by simp; omega
            have q3 : decide (I = len) = true := by simp; omega
            have q4 : (I == len) = true := by simp; omega
            clear e1
            go_wp2_with fail
            go_ret3
            exact ⟨⟨0, 0, by rw [HY.out]; rfl, by rw [HY.out]; rfl⟩, bt⟩
          ·
            have hy : tyT (.node op n pl len sub) = 0 := by rw [HTY.out]; unfold tyOf; (repeat' split) <;> omega
            have HY := Lib.hid hy
            clear hy
            have q1 : decide ((I : Int) = (len : Int)) = false := by simp; omega
            have q2 : ((I : Int) == (len : Int)) = false := by simp; omega
            have q3 : decide (I = len) = false := by simp; omega
            have q4 : (I == len) = false := by simp; omega
            clear e1
            have a3 : decide (15 ≤ op) = false := by simp; omega
            have a4d : decide (op = 13) = false := by simp; omega
            have a4e : (op == 13) = false := by simp; omega
            have a5d : decide (op = 14) = false := by simp; omega
            have a5e : (op == 14) = false := by simp; omega
            have c2L : ∀ z : Later wr.heap.size wr, z.w.cell? ⟨gt, 2, none⟩ = some (.int .i64 pl) := fun z => cell_of_row _ _ 2 _ _ _ ((z.below.block gt (Array.getElem?_eq_some_iff.1 pt).1).trans pt)
            go_wp2_with fail
            refine wp_region_later wr.heap.size wr (by kernel_rfl) (by kernel_rfl) (Below.refl _ _) ?_
            repeat (go_big_quiet_step (fail))
            refine wpQuiet_nil ?_
            intro _ hlat
            obtain ⟨z, rfl⟩ := hlat
            go_wp2_with fail
            go_ret3
            exact ⟨⟨4, pl, by rw [HY.out]; rfl, by rw [HY.out]; rfl⟩, below_then bt z.below⟩
        have a2 : decide (op ≤ 12) = false := by simpa using k2
        by_cases k13 : op = 13
        ·
          have hy : tyT (.node op n pl len sub) = 2 := by rw [HTY.out]; unfold tyOf; (repeat' split) <;> omega
          have HY := Lib.hid hy
          clear hy
          subst k13
          go_wp2_with fail
          go_ret3
          exact ⟨⟨0, 0, by rw [HY.out]; rfl, by rw [HY.out]; rfl⟩, bt⟩
        by_cases k14 : op = 14
        ·
          have hy : tyT (.node op n pl len sub) = 2 := by rw [HTY.out]; unfold tyOf; (repeat' split) <;> omega
          have HY := Lib.hid hy
          clear hy
          subst k14
          go_wp2_with fail
          go_ret3
          exact ⟨⟨0, 0, by rw [HY.out]; rfl, by rw [HY.out]; rfl⟩, bt⟩
        have a4d : decide (op = 13) = false := by simp; omega
        have a4e : (op == 13) = false := by simp; omega
        have a5d : decide (op = 14) = false := by simp; omega
        have a5e : (op == 14) = false := by simp; omega
        have a3 : decide (15 ≤ op) = true := by simp; omega
        by_cases k4 : op ≤ 19
        · have a6 : decide (op ≤ 19) = true := by simpa using k4
          by_cases e1 : B = len
          ·
            have hy : tyT (.node op n pl len sub) = 2 := by rw [HTY.out]; unfold tyOf; (repeat' split) <;> omega
            have HY := Lib.hid hy
            clear hy
            have q1 : decide ((B : Int) = (len : Int)) = true := by simp; omega
            have q2 : ((B : Int) == (len : Int)) = true := by simp; omega
            have q3 : decide (B = len) = true := by simp; omega
            have q4 : (B == len) = true := by simp; omega
            clear e1
            go_wp2_with fail
            go_ret3
            exact ⟨⟨0, 0, by rw [HY.out]; rfl, by rw [HY.out]; rfl⟩, bt⟩
          ·
            have q1 : decide ((B : Int) = (len : Int)) = false := by simp; omega
            have q2 : ((B : Int) == (len : Int)) = false := by simp; omega
            have q3 : decide (B = len) = false := by simp; omega
            have q4 : (B == len) = false := by simp; omega
            have hbt : RowKit.wrap64 ((B : Int) + (T : Int)) = ((B + T : Nat) : Int) := by rw [IntWalk.wrap64_in _ (by omega)]; omega
            by_cases e5 : B + T = len
            ·
              have hy : tyT (.node op n pl len sub) = 3 := by rw [HTY.out]; unfold tyOf; (repeat' split) <;> omega
              have HY := Lib.hid hy
              clear hy
              have z1 : decide ((B : Int) + (T : Int) = (len : Int)) = true := by simp; omega
              have z2 : ((B : Int) + (T : Int) == (len : Int)) = true := by simp; omega
              have z1 : decide ((B + T : Int) = (len : Int)) = true := by simp; omega
              have z2 : ((B + T : Int) == (len : Int)) = true := by simp; omega
              have z3 : decide (B + T = len) = true := by simp; omega
              have z4 : (B + T == len) = true := by simp; omega
              clear e5 hbt
              go_wp2_with fail
              go_ret3
              exact ⟨⟨0, 0, by rw [HY.out]; rfl, by rw [HY.out]; rfl⟩, bt⟩
            ·
              have hy : tyT (.node op n pl len sub) = 0 := by rw [HTY.out]; unfold tyOf; (repeat' split) <;> omega
              have HY := Lib.hid hy
              clear hy
              have z1 : decide ((B : Int) + (T : Int) = (len : Int)) = false := by simp; omega
              have z2 : ((B : Int) + (T : Int) == (len : Int)) = false := by simp; omega
              have z1 : decide ((B + T : Int) = (len : Int)) = false := by simp; omega
              have z2 : ((B + T : Int) == (len : Int)) = false := by simp; omega
              have z3 : decide (B + T = len) = false := by simp; omega
              have z4 : (B + T == len) = false := by simp; omega
              clear e5 hbt
              have c2L : ∀ z : Later wr.heap.size wr, z.w.cell? ⟨gt, 2, none⟩ = some (.int .i64 pl) := fun z => cell_of_row _ _ 2 _ _ _ ((z.below.block gt (Array.getElem?_eq_some_iff.1 pt).1).trans pt)
              go_wp2_with fail
              refine wp_region_later wr.heap.size wr (by kernel_rfl) (by kernel_rfl) (Below.refl _ _) ?_
              repeat (go_big_quiet_step (fail))
              refine wpQuiet_nil ?_
              intro _ hlat
              obtain ⟨z, rfl⟩ := hlat
              go_wp2_with fail
              go_ret3
              exact ⟨⟨4, pl, by rw [HY.out]; rfl, by rw [HY.out]; rfl⟩, below_then bt z.below⟩
        have a6 : decide (op ≤ 19) = false := by simpa using k4
        have hbt : RowKit.wrap64 ((B : Int) + (T : Int)) = ((B + T : Nat) : Int) := by rw [IntWalk.wrap64_in _ (by omega)]; omega
        by_cases e5 : B + T = len
        ·
          have hy : tyT (.node op n pl len sub) = 3 := by rw [HTY.out]; unfold tyOf; (repeat' split) <;> omega
          have HY := Lib.hid hy
          clear hy
          have z1 : decide ((B : Int) + (T : Int) = (len : Int)) = true := by simp; omega
          have z2 : ((B : Int) + (T : Int) == (len : Int)) = true := by simp; omega
          have z1 : decide ((B + T : Int) = (len : Int)) = true := by simp; omega
          have z2 : ((B + T : Int) == (len : Int)) = true := by simp; omega
          have z3 : decide (B + T = len) = true := by simp; omega
          have z4 : (B + T == len) = true := by simp; omega
          clear e5 hbt
          go_wp2_with fail
          go_ret3
          exact ⟨⟨0, 0, by rw [HY.out]; rfl, by rw [HY.out]; rfl⟩, bt⟩
        ·
          have hy : tyT (.node op n pl len sub) = 0 := by rw [HTY.out]; unfold tyOf; (repeat' split) <;> omega
          have HY := Lib.hid hy
          clear hy
          have z1 : decide ((B : Int) + (T : Int) = (len : Int)) = false := by simp; omega
          have z2 : ((B : Int) + (T : Int) == (len : Int)) = false := by simp; omega
          have z1 : decide ((B + T : Int) = (len : Int)) = false := by simp; omega
          have z2 : ((B + T : Int) == (len : Int)) = false := by simp; omega
          have z3 : decide (B + T = len) = false := by simp; omega
          have z4 : (B + T == len) = false := by simp; omega
          clear e5 hbt
          have c2L : ∀ z : Later wr.heap.size wr, z.w.cell? ⟨gt, 2, none⟩ = some (.int .i64 pl) := fun z => cell_of_row _ _ 2 _ _ _ ((z.below.block gt (Array.getElem?_eq_some_iff.1 pt).1).trans pt)
          go_wp2_with fail
          refine wp_region_later wr.heap.size wr (by kernel_rfl) (by kernel_rfl) (Below.refl _ _) ?_
          repeat (go_big_quiet_step (fail))
          refine wpQuiet_nil ?_
          intro _ hlat
          obtain ⟨z, rfl⟩ := hlat
          go_wp2_with fail
          go_ret3
          exact ⟨⟨4, pl, by rw [HY.out]; rfl, by rw [HY.out]; rfl⟩, below_then bt z.below⟩
end Go.Proofs.Ytpabnpgbclfcfaa
