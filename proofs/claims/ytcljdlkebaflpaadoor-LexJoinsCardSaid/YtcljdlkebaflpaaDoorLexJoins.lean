/- LexJoins returns true. -/
import Derived.Test.YtcljdlkebaflpaaDoorLex7
namespace Go.Proofs.YtcljdlkebaflpaaDoor
open Go.RowKit
set_option linter.unusedVariables false

theorem ljoins_big (w : World) (hw : Signed w) (s t : ByteArray) (h : 1000 < s.size ∨ 1000 < t.size) :
    Calls Tryd.prog 7 #[.string s, .string t] w fun e w' => e = .returned (.bool true) ∧ Below w.heap.size w w' := by
  by_cases h1 : 1000 < s.size
  · have d1 : decide ((1000 : Int) < (s.size : Int)) = true := by simp; omega
    go_enter Tryd.func7, Tryd.ntmps7
    go_wp2_with fail
    refine (shown_any _ hw).mono ?_
    rintro e w1 ⟨rfl, b1⟩
    go_wp2_with fail
    go_ret
    exact ⟨rfl, b1⟩
  · have d1 : decide ((1000 : Int) < (s.size : Int)) = false := by simp; omega
    have d2 : decide ((1000 : Int) < (t.size : Int)) = true := by simp; omega
    go_enter Tryd.func7, Tryd.ntmps7
    go_wp2_with fail
    refine (shown_any _ hw).mono ?_
    rintro e w1 ⟨rfl, b1⟩
    go_wp2_with fail
    go_ret
    exact ⟨rfl, b1⟩
theorem ljoins_err1 (w : World) (hw : Signed w) (s t : ByteArray) (h1 : s.size ≤ 1000) (h2 : t.size ≤ 1000) (c q : Nat) (hx : lexL s.data.toList = .error (c, q)) :
    Calls Tryd.prog 7 #[.string s, .string t] w fun e w' => e = .returned (.bool true) ∧ Below w.heap.size w w' := by
  have d1 : decide ((1000 : Int) < (s.size : Int)) = false := by simp; omega
  have d2 : decide ((1000 : Int) < (t.size : Int)) = false := by simp; omega
  have hj := lexL_join (a := s.data.toList) (b := t.data.toList) (by rw [← Lib.size_eq, ← Lib.size_eq]; omega)
  rw [hx, ← lf_bytes] at hj
  have hz : (s ++ (⟨#[10]⟩ : ByteArray) ++ t).size = s.size + 1 + t.size := lf_size s t
  have hc := lexL_err hx
  have e0 : ((c : Int) != 0) = true := by simp; omega
  have e1 : ((c : Int) == (c : Int)) = true := by simp
  have e2 : ((q : Int) == (q : Int)) = true := by simp
  go_enter Tryd.func7, Tryd.ntmps7
  go_wp2_with fail
  refine (shown_any _ hw).mono ?_
  rintro e w1 ⟨rfl, b1⟩
  have hw1 := hw.mono b1
  go_wp2_with fail
  refine (tokens_err _ _ c q hw1 (by omega) hx).mono ?_
  rintro e w2 ⟨rfl, b2⟩
  have hw2 := hw1.mono b2
  replace b2 := below_then b1 b2
  cases hy : lexL t.data.toList with
  | error x =>
    obtain ⟨c', q'⟩ := x
    go_wp2_with fail
    refine (tokens_err _ _ c' q' hw2 (by omega) hy).mono ?_
    rintro e w3 ⟨rfl, b3⟩
    have hw3 := hw2.mono b3
    replace b3 := below_then b2 b3
    go_wp2_with fail
    refine (tokens_err _ _ c q hw3 (by omega) hj).mono ?_
    rintro e w4 ⟨rfl, b4⟩
    replace b4 := below_then b3 b4
    go_wp2_with fail
    go_ret
    exact ⟨rfl, b4⟩
  | ok y =>
    go_wp2_with fail
    refine (tokens_ok _ _ y hw2 (by omega) hy).mono ?_
    rintro e w3 ⟨⟨gy, cy, rfl, ty⟩, b3⟩
    have hw3 := hw2.mono b3
    replace b3 := below_then b2 b3
    go_wp2_with fail
    refine (tokens_err _ _ c q hw3 (by omega) hj).mono ?_
    rintro e w4 ⟨rfl, b4⟩
    replace b4 := below_then b3 b4
    go_wp2_with fail
    go_ret
    exact ⟨rfl, b4⟩
theorem ljoins_err2 (w : World) (hw : Signed w) (s t : ByteArray) (h1 : s.size ≤ 1000) (h2 : t.size ≤ 1000) (x : List Tok) (c q : Nat) (hx : lexL s.data.toList = .ok x) (hy : lexL t.data.toList = .error (c, q)) :
    Calls Tryd.prog 7 #[.string s, .string t] w fun e w' => e = .returned (.bool true) ∧ Below w.heap.size w w' := by
  have d1 : decide ((1000 : Int) < (s.size : Int)) = false := by simp; omega
  have d2 : decide ((1000 : Int) < (t.size : Int)) = false := by simp; omega
  have hj := lexL_join (a := s.data.toList) (b := t.data.toList) (by rw [← Lib.size_eq, ← Lib.size_eq]; omega)
  rw [hx, hy, ← lf_bytes, ← Lib.size_eq] at hj
  have hj : lexL (s ++ (⟨#[10]⟩ : ByteArray) ++ t).data.toList = .error (c, q + (s.size + 1)) := hj
  have hz : (s ++ (⟨#[10]⟩ : ByteArray) ++ t).size = s.size + 1 + t.size := lf_size s t
  have hc := lexL_err hy
  obtain ⟨r, hr⟩ : ∃ r, q + (s.size + 1) = r := ⟨_, rfl⟩
  rw [hr] at hj
  have e0 : ((c : Int) != 0) = true := by simp; omega
  have e1 : ((c : Int) == (c : Int)) = true := by simp
  have hq := lexL_place (by rw [← Lib.size_eq]; omega) hy
  rw [← Lib.size_eq] at hq
  have e2 : ((r : Int) == (s.size : Int) + 1 + (q : Int)) = true := by simp; omega
  go_enter Tryd.func7, Tryd.ntmps7
  go_wp2_with fail
  refine (shown_any _ hw).mono ?_
  rintro e w1 ⟨rfl, b1⟩
  have hw1 := hw.mono b1
  go_wp2_with fail
  refine (tokens_ok _ _ x hw1 (by omega) hx).mono ?_
  rintro e w2 ⟨⟨gx, cx, rfl, tx⟩, b2⟩
  have hw2 := hw1.mono b2
  replace b2 := below_then b1 b2
  go_wp2_with fail
  refine (tokens_err _ _ c q hw2 (by omega) hy).mono ?_
  rintro e w3 ⟨rfl, b3⟩
  have hw3 := hw2.mono b3
  replace b3 := below_then b2 b3
  go_wp2_with fail
  refine (tokens_err _ _ c r hw3 (by omega) hj).mono ?_
  rintro e w4 ⟨rfl, b4⟩
  replace b4 := below_then b3 b4
  go_wp2_with fail
  go_ret
  exact ⟨rfl, b4⟩
set_option maxHeartbeats 2000000 in
theorem ljoins_ok (w : World) (hw : Signed w) (s t : ByteArray) (h1 : s.size ≤ 1000) (h2 : t.size ≤ 1000) (x y : List Tok) (hx : lexL s.data.toList = .ok x) (hy : lexL t.data.toList = .ok y) :
    Calls Tryd.prog 7 #[.string s, .string t] w fun e w' => e = .returned (.bool true) ∧ Below w.heap.size w w' := by
  have d1 : decide ((1000 : Int) < (s.size : Int)) = false := by simp; omega
  have d2 : decide ((1000 : Int) < (t.size : Int)) = false := by simp; omega
  have hj := lexL_join (a := s.data.toList) (b := t.data.toList) (by rw [← Lib.size_eq, ← Lib.size_eq]; omega)
  rw [hx, hy, ← lf_bytes, ← Lib.size_eq] at hj
  obtain ⟨z, hzz⟩ : ∃ z, x.dropLast ++ y.map (fun t => { t with at_ := t.at_ + (s.size + 1) }) = z := ⟨_, rfl⟩
  have hj : lexL (s ++ (⟨#[10]⟩ : ByteArray) ++ t).data.toList = .ok z := by rw [hj, ← hzz]; rfl
  have hz : (s ++ (⟨#[10]⟩ : ByteArray) ++ t).size = s.size + 1 + t.size := lf_size s t
  have nx := List.length_pos_iff.2 (lexL_ne hx)
  have ny := List.length_pos_iff.2 (lexL_ne hy)
  have nz : z.length = x.length - 1 + y.length := by rw [← hzz]; simp
  obtain ⟨bx, _⟩ := lexL_len hx
  obtain ⟨by_, hya⟩ := lexL_len hy
  rw [← Lib.size_eq] at bx by_ hya
  have e0 : decide ((x.length : Int) < 1) = false := by simp; omega
  have e1 : ((z.length : Int) != (x.length : Int) - 1 + (y.length : Int)) = false := by simp; omega
  go_enter Tryd.func7, Tryd.ntmps7
  go_wp2_with fail
  refine (shown_any _ hw).mono ?_
  rintro e w1 ⟨rfl, b1⟩
  have hw1 := hw.mono b1
  go_wp2_with fail
  refine (tokens_ok _ _ x hw1 (by omega) hx).mono ?_
  rintro e w2 ⟨⟨gx, cx, rfl, tx⟩, b2⟩
  have hw2 := hw1.mono b2
  replace b1 := below_then b1 b2
  go_wp2_with fail
  refine (tokens_ok _ _ y hw2 (by omega) hy).mono ?_
  rintro e w3 ⟨⟨gy, cy, rfl, ty⟩, b3⟩
  have hw3 := hw2.mono b3
  replace b1 := below_then b1 b3
  replace tx := tx.mono b3
  go_wp2_with fail
  refine (tokens_ok _ _ z hw3 (by omega) hj).mono ?_
  rintro e w4 ⟨⟨gz, cz, rfl, tz⟩, b4⟩
  replace b1 := below_then b1 b4
  replace tx := tx.mono b4
  replace ty := ty.mono b4
  clear b2 b3 b4 hw1 hw2 hw3 hw hj hx hy
  go_wp2_with fail
  go_loopw [15] (fun i w' => ∃ j : Nat, j ≤ z.length ∧ i = .int .i64 (j : Nat) ∧ Below w4.heap.size w4 w') (fun i _ => z.length - (intOf i).toNat)
  case atStart => exact ⟨0, Nat.zero_le _, rfl, Below.refl _ _⟩
  case round =>
    obtain ⟨j, hjz, rfl, bel⟩ := hrel
    replace tx := tx.mono bel
    replace ty := ty.mono bel
    replace tz := tz.mono bel
    have lx := tx.lt
    have ly := ty.lt
    have lz := tz.lt
    by_cases hlt : j < z.length
    · have f1 : decide ((j : Int) < (z.length : Int)) = true := by simp; omega
      have f1' : decide (j < z.length) = true := by simp; omega
      by_cases hlx : j < x.length - 1
      · have f2 : decide ((j : Int) < (x.length : Int) - 1) = true := by simp; omega
        have hxj : x[j]? = some (x[j]'(by omega)) := List.getElem?_eq_getElem _
        obtain ⟨⟨kd, txt, n, at_⟩, hu⟩ : ∃ u, x[j]'(by omega) = u := ⟨_, rfl⟩
        rw [hu] at hxj
        have hzj : z[j]? = some ⟨kd, txt, n, at_⟩ := by
          rw [← hzz, List.getElem?_append_left (by simp; omega), List.getElem?_dropLast, if_pos hlx, hxj]
        obtain ⟨c0, c1, c2, c3⟩ := tx.at_ j _ hxj
        obtain ⟨z0, z1, z2, z3⟩ := tz.at_ j _ hzj
        simp only [] at c0 c1 c2 c3 z0 z1 z2 z3
        have g1 : (j : Int) < ((x.length - 1 + y.length : Nat) : Int) := by omega
        go_wp2_with fail
        go_quiet (fail)
        go_wp2_with fail
        refine ⟨⟨j + 1, by omega, by simp, (bel.alloc bel.size _).trans (below_drewN (Below.refl _ _) _)⟩, by simp [intOf]; omega⟩
      · have f2 : decide ((j : Int) < (x.length : Int) - 1) = false := by simp; omega
        obtain ⟨m, hm⟩ : ∃ m : Nat, (j : Int) - (x.length : Int) + 1 = (m : Int) := ⟨j - (x.length - 1), by omega⟩
        have hmy : m < y.length := by omega
        have hyj : y[m]? = some (y[m]'hmy) := List.getElem?_eq_getElem _
        obtain ⟨⟨kd, txt, n, at_⟩, hu⟩ : ∃ u, y[m]'hmy = u := ⟨_, rfl⟩
        rw [hu] at hyj
        have hzj : z[j]? = some ⟨kd, txt, n, at_ + (s.size + 1)⟩ := by
          rw [← hzz, List.getElem?_append_right (by simp; omega), List.getElem?_map]
          rw [show j - x.dropLast.length = m by simp; omega, hyj]
          rfl
        obtain ⟨c0, c1, c2, c3⟩ := ty.at_ m _ hyj
        obtain ⟨z0, z1, z2, z3⟩ := tz.at_ j _ hzj
        simp only [] at c0 c1 c2 c3 z0 z1 z2 z3
        have g1 : (j : Int) < ((x.length - 1 + y.length : Nat) : Int) := by omega
        have hat : at_ ≤ t.size := hya ⟨kd, txt, n, at_⟩ (List.mem_of_getElem? hyj)
        go_wp2_with fail
        go_quiet (fail)
        go_wp2_with fail
        refine ⟨⟨j + 1, by omega, by simp, (bel.alloc bel.size _).trans (below_drewN (Below.refl _ _) _)⟩, by simp [intOf]; omega⟩
    · have f1 : decide ((j : Int) < (z.length : Int)) = false := by simp; omega
      have f1' : decide (j < z.length) = false := by simp; omega
      go_wp2_with fail
      go_ret
      exact ⟨rfl, below_then b1 bel⟩
theorem lexjoins_any (w : World) (hw : Signed w) (s t : ByteArray) :
    Calls Tryd.prog 7 #[.string s, .string t] w fun e w' => e = .returned (.bool true) ∧ Below w.heap.size w w' := by
  by_cases h : 1000 < s.size ∨ 1000 < t.size
  · exact ljoins_big w hw s t h
  have h1 : s.size ≤ 1000 := by omega
  have h2 : t.size ≤ 1000 := by omega
  cases hx : lexL s.data.toList with
  | error e => exact ljoins_err1 w hw s t h1 h2 e.1 e.2 hx
  | ok x =>
    cases hy : lexL t.data.toList with
    | error e => exact ljoins_err2 w hw s t h1 h2 x e.1 e.2 hx hy
    | ok y => exact ljoins_ok w hw s t h1 h2 x y hx hy
end Go.Proofs.YtcljdlkebaflpaaDoor
