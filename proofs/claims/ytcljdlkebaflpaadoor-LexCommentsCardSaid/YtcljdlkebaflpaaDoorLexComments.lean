/- LexComments returns true. -/
import Derived.Test.YtcljdlkebaflpaaDoorLex8
namespace Go.Proofs.YtcljdlkebaflpaaDoor
open Go.RowKit
set_option linter.unusedVariables false

theorem cm_bytes (s t : ByteArray) : ((⟨#[35]⟩ : ByteArray) ++ t ++ (⟨#[10]⟩ : ByteArray) ++ s).data.toList = 35 :: t.data.toList ++ 10 :: s.data.toList := by simp
theorem cm_bytes2 (s t : ByteArray) : (s ++ (⟨#[10, 35]⟩ : ByteArray) ++ t).data.toList = s.data.toList ++ 10 :: 35 :: t.data.toList := by simp
theorem cm_size (s t : ByteArray) : ((⟨#[35]⟩ : ByteArray) ++ t ++ (⟨#[10]⟩ : ByteArray) ++ s).size = t.size + s.size + 2 := by
  rw [Lib.size_eq, cm_bytes, Lib.size_eq, Lib.size_eq]
  simp
  omega
theorem cm_size2 (s t : ByteArray) : (s ++ (⟨#[10, 35]⟩ : ByteArray) ++ t).size = t.size + s.size + 2 := by
  rw [Lib.size_eq, cm_bytes2, Lib.size_eq, Lib.size_eq]
  simp
  omega
set_option maxRecDepth 100000 in
theorem lcomments_big (w : World) (hw : Signed w) (s t : ByteArray) (h : 500 < s.size ∨ 500 < t.size) :
    Calls Tryd.prog 9 #[.string s, .string t] w fun e w' => e = .returned (.bool true) ∧ Below w.heap.size w w' := by
  by_cases h1 : 500 < s.size
  · have d1 : decide ((500 : Int) < (s.size : Int)) = true := by simp; omega
    go_enter Tryd.func9, Tryd.ntmps9
    go_wp2_with fail
    refine (shown_any _ hw).mono ?_
    rintro e w1 ⟨rfl, b1⟩
    go_wp2_with fail
    go_ret
    exact ⟨rfl, b1⟩
  · have d1 : decide ((500 : Int) < (s.size : Int)) = false := by simp; omega
    have d2 : decide ((500 : Int) < (t.size : Int)) = true := by simp; omega
    go_enter Tryd.func9, Tryd.ntmps9
    go_wp2_with fail
    refine (shown_any _ hw).mono ?_
    rintro e w1 ⟨rfl, b1⟩
    go_wp2_with fail
    go_ret
    exact ⟨rfl, b1⟩
set_option maxRecDepth 100000 in
set_option maxHeartbeats 4000000 in
theorem lcomments_small (w : World) (hw : Signed w) (s t : ByteArray) (h1 : s.size ≤ 500) (h2 : t.size ≤ 500) :
    Calls Tryd.prog 9 #[.string s, .string t] w fun e w' => e = .returned (.bool true) ∧ Below w.heap.size w w' := by
  have d1 : decide ((500 : Int) < (s.size : Int)) = false := by simp; omega
  have d2 : decide ((500 : Int) < (t.size : Int)) = false := by simp; omega
  have hz1 := cm_size s t
  have hz2 := cm_size2 s t
  go_enter Tryd.func9, Tryd.ntmps9
  go_wp2_with fail
  refine (shown_any _ hw).mono ?_
  rintro e w1 ⟨rfl, b1⟩
  have hw1 := hw.mono b1
  go_wp2_with fail
  go_loop [6] (fun x => ∃ j : Nat, x = .int .i64 (j : Nat) ∧ j ≤ t.size ∧ ∀ i (h : i < t.size), i < j → (t[i]'h).toNat ≠ 10) (fun x => t.size - (intOf x).toNat)
  case atStart => exact ⟨0, rfl, Nat.zero_le _, fun i _ h => absurd h (Nat.not_lt_zero _)⟩
  case round =>
    obtain ⟨j, rfl, hj, hno⟩ := hrel
    by_cases hlt : j < t.size
    · have f1 : decide (j < t.size) = true := by simpa using hlt
      by_cases hc : (t[j]'hlt).toNat = 10
      · have f2 : (((t[j]'hlt).toNat : Int) == 10) = true := by simp; omega
        go_wp2_with fail
        go_ret
        exact ⟨rfl, b1⟩
      · have f2 : (((t[j]'hlt).toNat : Int) == 10) = false := by simp; omega
        go_wp2_with fail
        refine ⟨⟨j + 1, by simp, by omega, fun i h hi => ?_⟩, by simp [intOf]; omega⟩
        by_cases he : i = j
        · subst he; exact hc
        · exact hno i h (by omega)
    · have f1 : decide (j < t.size) = false := by simpa using hlt
      have hk : ∀ c ∈ t.data.toList, c ≠ 10 := by
        intro c hc
        obtain ⟨i, hi, rfl⟩ := List.mem_iff_getElem.1 hc
        have hi2 : i < t.size := by rw [Lib.size_eq]; exact hi
        have := hno i hi2 (by omega)
        intro e
        exact this (by have e2 : t.data.toList[i] = t[i]'hi2 := by simp; rfl
                       rw [← e2, e]; rfl)
      have hb := lexL_before (k := t.data.toList) (l := s.data.toList) hk (by rw [← Lib.size_eq, ← Lib.size_eq]; omega)
      have hc := lexL_behind (k := t.data.toList) (l := s.data.toList) hk (by rw [← Lib.size_eq, ← Lib.size_eq]; omega)
      rw [← cm_bytes, ← Lib.size_eq] at hb
      rw [← cm_bytes2, ← Lib.size_eq, ← Lib.size_eq] at hc
      clear hno hk
      cases hx : lexL s.data.toList with
      | error x =>
        obtain ⟨c, q⟩ := x
        rw [hx] at hb hc
        have hcc := lexL_err hx
        have hq := lexL_place (by rw [← Lib.size_eq]; omega) hx
        rw [← Lib.size_eq] at hq
        obtain ⟨r, hr⟩ : ∃ r, q + (t.size + 2) = r := ⟨_, rfl⟩
        have hb : lexL ((⟨#[35]⟩ : ByteArray) ++ t ++ (⟨#[10]⟩ : ByteArray) ++ s).data.toList = .error (c, r) := by rw [hb, ← hr]; rfl
        have e0 : ((c : Int) != 0) = true := by simp; omega
        have e1 : ((c : Int) == (c : Int)) = true := by simp
        have e2 : ((r : Int) == (q : Int) + ((t.size : Int) + 2)) = true := by simp; omega
        have e3 : ((q : Int) == (q : Int)) = true := by simp
        go_wp2_with fail
        refine (tokens_err _ _ c q hw1 (by omega) hx).mono ?_
        rintro e w2 ⟨rfl, b2⟩
        have hw2 := hw1.mono b2
        replace b2 := below_then b1 b2
        go_wp2_with fail
        refine (tokens_err _ _ c r hw2 (by omega) hb).mono ?_
        rintro e w3 ⟨rfl, b3⟩
        have hw3 := hw2.mono b3
        replace b3 := below_then b2 b3
        go_wp2_with fail
        refine (tokens_err _ _ c q hw3 (by omega) hc).mono ?_
        rintro e w4 ⟨rfl, b4⟩
        replace b4 := below_then b3 b4
        go_wp2_with fail
        go_ret
        exact ⟨rfl, b4⟩
      | ok x =>
        rw [hx] at hb hc
        have hlast := lexL_last hx
        obtain ⟨bx, hxa⟩ := lexL_len hx
        rw [← Lib.size_eq] at bx hxa hlast
        have nx := List.length_pos_iff.2 (lexL_ne hx)
        have HL := Lib.hid hlast
        clear hlast
        obtain ⟨y, hy⟩ : ∃ y, x.map (fun u => { u with at_ := u.at_ + (t.size + 2) }) = y := ⟨_, rfl⟩
        obtain ⟨z, hz⟩ : ∃ z, x.dropLast ++ [(⟨4, [], 0, s.size + t.size + 2⟩ : Tok)] = z := ⟨_, rfl⟩
        have hb : lexL ((⟨#[35]⟩ : ByteArray) ++ t ++ (⟨#[10]⟩ : ByteArray) ++ s).data.toList = .ok y := by rw [hb, ← hy]; rfl
        have hc : lexL (s ++ (⟨#[10, 35]⟩ : ByteArray) ++ t).data.toList = .ok z := by rw [hc, ← hz]
        have ny : y.length = x.length := by rw [← hy]; simp
        have nz : z.length = x.length := by rw [← hz]; simp; omega
        go_wp2_with fail
        refine (tokens_ok _ _ x hw1 (by omega) hx).mono ?_
        rintro e w2 ⟨⟨gx, cx, rfl, tx⟩, b2⟩
        have hw2 := hw1.mono b2
        replace b1 := below_then b1 b2
        go_wp2_with fail
        refine (tokens_ok _ _ y hw2 (by omega) hb).mono ?_
        rintro e w3 ⟨⟨gy, cy, rfl, ty⟩, b3⟩
        have hw3 := hw2.mono b3
        replace b1 := below_then b1 b3
        replace tx := tx.mono b3
        go_wp2_with fail
        refine (tokens_ok _ _ z hw3 (by omega) hc).mono ?_
        rintro e w4 ⟨⟨gz, cz, rfl, tz⟩, b4⟩
        replace b1 := below_then b1 b4
        replace tx := tx.mono b4
        replace ty := ty.mono b4
        clear b2 b3 b4 hw1 hw2 hw3 hw hb hc hx
        have e0 : ((x.length : Int) != (x.length : Int)) = false := by simp
        go_wp2_with fail
        go_loopw [17] (fun i w' => ∃ j : Nat, j ≤ x.length ∧ i = .int .i64 (j : Nat) ∧ Below w4.heap.size w4 w') (fun i _ => x.length - (intOf i).toNat)
        case atStart => exact ⟨0, Nat.zero_le _, rfl, Below.refl _ _⟩
        case round =>
          obtain ⟨i, hix, rfl, bel⟩ := hrel
          replace tx := tx.mono bel
          replace ty := ty.mono bel
          replace tz := tz.mono bel
          have lx := tx.lt
          have ly := ty.lt
          have lz := tz.lt
          by_cases hlx : i < x.length
          · have g1 : decide (i < x.length) = true := by simpa using hlx
            have hxj : x[i]? = some (x[i]'hlx) := List.getElem?_eq_getElem _
            obtain ⟨⟨kd, txt, n, p⟩, hu⟩ : ∃ u, x[i]'hlx = u := ⟨_, rfl⟩
            rw [hu] at hxj
            have hp : p ≤ s.size := hxa ⟨kd, txt, n, p⟩ (List.mem_of_getElem? hxj)
            have hyj : y[i]? = some ⟨kd, txt, n, p + (t.size + 2)⟩ := by rw [← hy, List.getElem?_map, hxj]; rfl
            obtain ⟨c0, c1, c2, c3⟩ := tx.at_ i _ hxj
            obtain ⟨y0, y1, y2, y3⟩ := ty.at_ i _ hyj
            simp only [] at c0 c1 c2 c3 y0 y1 y2 y3
            by_cases hl : i = x.length - 1
            · have g2 : ((i : Int) == (x.length : Int) - 1) = true := by simp; omega
              have hzj : z[i]? = some ⟨kd, txt, n, p + (t.size + 2)⟩ := by
                rw [HL.out, List.getElem?_append_right (by simp; omega)] at hxj
                rw [← hz, List.getElem?_append_right (by simp; omega)]
                have e : i - x.dropLast.length = 0 := by simp; omega
                rw [e] at hxj ⊢
                simp at hxj ⊢
                obtain ⟨rfl, rfl, rfl, rfl⟩ := hxj
                simp
                omega
              obtain ⟨z0, z1, z2, z3⟩ := tz.at_ i _ hzj
              simp only [] at z0 z1 z2 z3
              clear hl
              go_wp2_with fail
              go_quiet (fail)
              go_wp2_with fail
              refine ⟨⟨i + 1, by omega, by simp, ((bel.alloc bel.size _).alloc (by have := bel.size; simp; omega) _).trans (below_drewN (Below.refl _ _) _)⟩, by simp [intOf]; omega⟩
            · have g2 : ((i : Int) == (x.length : Int) - 1) = false := by simp; omega
              have hzj : z[i]? = some ⟨kd, txt, n, p⟩ := by
                rw [HL.out, List.getElem?_append_left (by simp; omega)] at hxj
                rw [← hz, List.getElem?_append_left (by simp; omega), hxj]
              obtain ⟨z0, z1, z2, z3⟩ := tz.at_ i _ hzj
              simp only [] at z0 z1 z2 z3
              go_wp2_with fail
              go_quiet (fail)
              go_wp2_with fail
              refine ⟨⟨i + 1, by omega, by simp, ((bel.alloc bel.size _).alloc (by have := bel.size; simp; omega) _).trans (below_drewN (Below.refl _ _) _)⟩, by simp [intOf]; omega⟩
          · have g1 : decide (i < x.length) = false := by simpa using hlx
            go_wp2_with fail
            go_ret
            exact ⟨rfl, below_then b1 bel⟩
theorem lexcomments_any (w : World) (hw : Signed w) (s t : ByteArray) :
    Calls Tryd.prog 9 #[.string s, .string t] w fun e w' => e = .returned (.bool true) ∧ Below w.heap.size w w' := by
  by_cases h : 500 < s.size ∨ 500 < t.size
  · exact lcomments_big w hw s t h
  · exact lcomments_small w hw s t (by omega) (by omega)
end Go.Proofs.YtcljdlkebaflpaaDoor
