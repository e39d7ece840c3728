/- Few, Rows, Keys, flag. -/
import Derived.Test.YtkklciecdhbleaaTabHead
import Derived.Test.YtkklciecdhbleaaKeys
namespace Go.Proofs.Ytkklciecdhbleaa
open Go.RowKit
set_option linter.unusedVariables false

def FewK (w : World) (len : Nat) (f : Nat → KeyD) (most : Int) (e : Ending) (w' : World) : Prop := (∃ b : Bool, e = .returned (.bool b) ∧ (b = true → (len : Int) ≤ most ∧ ∀ i, i < len → (f i).kl ≤ 200)) ∧ w = w'
theorem few_any (w : World) (a : Option Addr) (len cap : Nat) (f : Nat → KeyD) (most : Int) (h : KeysAt w a len f) :
    Calls Try.prog 9 #[.slice a len cap, .int .i64 most] w (FewK w len f most) := by
  have hm := h.small
  by_cases hlen : most < (len : Int)
  · have d1 : decide (most < (len : Int)) = true := by simpa using hlen
    go_enter Try.func9, Try.ntmps9
    go_wp2_with fail
    go_ret
    exact ⟨⟨false, rfl, fun h => by cases h⟩, rfl⟩
  have d1 : decide (most < (len : Int)) = false := by simpa using hlen
  go_enter Try.func9, Try.ntmps9
  go_wp2_with fail
  go_loop [5] (fun i => ∃ j : Nat, j ≤ len ∧ i = .int .i64 (j : Nat) ∧ ∀ i, i < j → (f i).kl ≤ 200) (fun i => len - (intOf i).toNat)
  case atStart => exact ⟨0, Nat.zero_le _, rfl, fun i hi => by omega⟩
  case round =>
    obtain ⟨j, hj, rfl, hall⟩ := hrel
    by_cases hjl : j < len
    · have f1 : decide (j < len) = true := by simpa using hjl
      obtain ⟨b, off, rfl, hbs, hact⟩ := h.at_.resolve_left (by omega)
      have hx := (hact j hjl).1
      obtain ⟨⟨ka, kl, kc, key⟩, hu⟩ : ∃ u, f j = u := ⟨_, rfl⟩
      rw [hu] at hx
      simp only [] at hx
      by_cases hk : 200 < kl
      · have f2 : decide ((200 : Int) < (kl : Int)) = true := by simp; omega
        clear hu hact
        go_wp2_with fail
        go_ret
        exact ⟨⟨false, rfl, fun h => by cases h⟩, rfl⟩
      · have f2 : decide ((200 : Int) < (kl : Int)) = false := by simp; omega
        have hu' : (f j).kl ≤ 200 := by rw [hu]; show kl ≤ 200; omega
        clear hu hact
        go_wp2_with fail
        refine ⟨⟨j + 1, by omega, by simp, fun i hi => ?_⟩, by simp [intOf]; omega⟩
        by_cases he : i = j
        · rw [he]; exact hu'
        · exact hall i (by omega)
    · have f1 : decide (j < len) = false := by simpa using hjl
      obtain rfl : j = len := by omega
      go_wp2_with fail
      go_ret
      exact ⟨⟨true, rfl, fun _ => ⟨by omega, hall⟩⟩, rfl⟩
/-- A row of byte strings in memory. -/
structure RowsK (w : World) (a : Option Addr) (n : Nat) (ks : List (List Nat)) : Prop where
  len : ks.length = n
  small : n ≤ 9223372036854775807
  at_ : n = 0 ∨ ∃ b off, a = some ⟨b, off, none⟩ ∧ b < w.heap.size ∧ ∀ i, i < n → ∃ x l c, w.cell? ⟨b, off + i, none⟩ = some (.slice x l c) ∧ BytesAt w x l c (ks.getD i [])
theorem RowsK.mono {w w' : World} {a : Option Addr} {n : Nat} {ks : List (List Nat)} (h : RowsK w a n ks) (hb : Below w.heap.size w w') : RowsK w' a n ks := by
  refine ⟨h.1, h.2, ?_⟩
  rcases h.3 with h0 | ⟨b, off, ha, hlt, hi⟩
  · exact .inl h0
  · refine .inr ⟨b, off, ha, Nat.lt_of_lt_of_le hlt hb.size, fun i hil => ?_⟩
    obtain ⟨x, l, c, h1, h2⟩ := hi i hil
    exact ⟨x, l, c, (hb.cell (p := ⟨b, off + i, none⟩) hlt).trans h1, h2.mono hb⟩
theorem str_same {l k : List Nat} (hl : ∀ n ∈ l, n < 256) (hk : ∀ n ∈ k, n < 256) : ((strOfNums (l.map fun (n : Nat) => (n : Int))).toList == (strOfNums (k.map fun (n : Nat) => (n : Int))).toList) = decide (l = k) := by
  rw [Lib.strOfNums_toList, Lib.strOfNums_toList]
  exact bytes_same hl hk
theorem rows_ext {xs ys : List (List Nat)} {n : Nat} (hx : xs.length = n) (hy : ys.length = n) (h : ∀ i, i < n → xs.getD i [] = ys.getD i []) : xs = ys := by
  apply List.ext_getElem (by omega)
  intro i h1 h2
  have := h i (by omega)
  rw [List.getD_eq_getElem?_getD, List.getD_eq_getElem?_getD, List.getElem?_eq_getElem h1, List.getElem?_eq_getElem h2] at this
  exact this
set_option maxHeartbeats 1000000 in
theorem rows_any (w : World) (a b : Option Addr) (n m c d : Nat) (xs ys : List (List Nat)) (hx : RowsK w a n xs) (hy : RowsK w b m ys) :
    Calls Try.prog 12 #[.slice a n c, .slice b m d] w fun e w' => e = .returned (.bool (decide (xs = ys))) ∧ Below w.heap.size w w' := by
  have hn := hx.small
  have hm := hy.small
  have lx := hx.len
  have ly := hy.len
  by_cases hnm : n = m
  case neg =>
    have d1 : decide (n = m) = false := by simpa using hnm
    have hne : xs ≠ ys := fun e => hnm (by rw [← lx, ← ly, e])
    rw [decide_eq_false hne]
    clear hne
    go_enter Try.func12, Try.ntmps12
    go_wp2_with fail
    go_ret
    exact ⟨rfl, Below.refl _ _⟩
  subst hnm
  obtain ⟨R, hR⟩ : ∃ R, decide (xs = ys) = R := ⟨_, rfl⟩
  rw [hR]
  go_enter Try.func12, Try.ntmps12
  go_wp2_with fail
  go_loopw [5] (fun i w' => ∃ j : Nat, j ≤ n ∧ i = .int .i64 (j : Nat) ∧ (∀ i, i < j → xs.getD i [] = ys.getD i []) ∧ Below w.heap.size w w') (fun i _ => n - (intOf i).toNat)
  case atStart => exact ⟨0, Nat.zero_le _, rfl, fun i hi => by omega, Below.refl _ _⟩
  case round =>
    obtain ⟨j, hj, rfl, hall, bel⟩ := hrel
    by_cases hjl : j < n
    · have f1 : decide (j < n) = true := by simpa using hjl
      obtain ⟨ba, oa, rfl, hba, hia⟩ := (hx.mono bel).at_.resolve_left (by omega)
      obtain ⟨bb, ob, rfl, hbb, hib⟩ := (hy.mono bel).at_.resolve_left (by omega)
      obtain ⟨x1, l1, c1, e1, k1⟩ := hia j hjl
      obtain ⟨x2, l2, c2, e2, k2⟩ := hib j hjl
      have hss := str_same k1.byte k2.byte
      obtain ⟨S1, hS1⟩ : ∃ S, strOfNums ((xs.getD j []).map fun (n : Nat) => (n : Int)) = S := ⟨_, rfl⟩
      obtain ⟨S2, hS2⟩ : ∃ S, strOfNums ((ys.getD j []).map fun (n : Nat) => (n : Int)) = S := ⟨_, rfl⟩
      have v1 : ∀ x : Later wr.heap.size wr, (convert 23 9 (.slice x1 l1 c1)).run Try.prog x.w = .ok (.string S1) x.w := fun x => by
        rw [← hS1]
        exact (k1.mono x.below).conv 23 5 9 Try.underlying23 Try.underlying5 Try.underlying9
      have v2 : ∀ x : Later wr.heap.size wr, (convert 23 9 (.slice x2 l2 c2)).run Try.prog x.w = .ok (.string S2) x.w := fun x => by
        rw [← hS2]
        exact (k2.mono x.below).conv 23 5 9 Try.underlying23 Try.underlying5 Try.underlying9
      rw [hS1, hS2] at hss
      obtain ⟨E, hE⟩ : ∃ E, decide (xs.getD j [] = ys.getD j []) = E := ⟨_, rfl⟩
      rw [hE] at hss
      have q1 : ∀ x : Later wr.heap.size wr, x.w.cell? ⟨ba, oa + j, none⟩ = some (.slice x1 l1 c1) := fun x => (x.below.cell (p := ⟨ba, oa + j, none⟩) hba).trans e1
      have q2 : ∀ x : Later wr.heap.size wr, x.w.cell? ⟨bb, ob + j, none⟩ = some (.slice x2 l2 c2) := fun x => (x.below.cell (p := ⟨bb, ob + j, none⟩) hbb).trans e2
      clear hS1 hS2 e1 e2 k1 k2 hia hib
      go_wp2_with fail
      refine wp_region_later wr.heap.size wr (by kernel_rfl) (by kernel_rfl) (Below.refl _ _) ?_
      repeat (go_big_quiet_step (fail))
      refine wpQuiet_nil ?_
      intro _ hlat
      obtain ⟨x, rfl⟩ := hlat
      cases E with
      | true =>
        have he : xs.getD j [] = ys.getD j [] := of_decide_eq_true hE
        have HE := Lib.hid he
        clear he hE v1 v2 q1 q2
        go_wp2_with fail
        refine ⟨⟨j + 1, by omega, by simp, fun i hi => ?_, below_then bel x.below⟩, by simp [intOf]; omega⟩
        by_cases hij : i = j
        · rw [hij]; exact HE.out
        · exact hall i (by omega)
      | false =>
        have he : xs.getD j [] ≠ ys.getD j [] := of_decide_eq_false hE
        obtain rfl : R = false := by rw [← hR]; exact decide_eq_false fun h => he (by rw [h])
        clear hE v1 v2 q1 q2 he hR
        go_wp2_with fail
        go_ret
        exact ⟨rfl, below_then bel x.below⟩
    · have f1 : decide (j < n) = false := by simpa using hjl
      obtain rfl : j = n := by omega
      obtain rfl : R = true := by rw [← hR]; exact decide_eq_true (rows_ext lx ly hall)
      clear hR
      go_wp2_with fail
      go_ret
      exact ⟨rfl, bel⟩
theorem flag_any (w : World) (b : Bool) : Calls Try.prog 21 #[.bool b] w fun e w' => e = .returned (.int .i64 ((b.toNat : Nat) : Int)) ∧ w = w' := by
  cases b with
  | true =>
    go_enter Try.func21, Try.ntmps21
    go_wp2_with fail
    go_ret
    exact ⟨rfl, rfl⟩
  | false =>
    go_enter Try.func21, Try.ntmps21
    go_wp2_with fail
    go_ret
    exact ⟨rfl, rfl⟩
end Go.Proofs.Ytkklciecdhbleaa
