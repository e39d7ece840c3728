/- LexSigns returns true. -/
import Derived.Test.YtcljdlkebaflpaaDoorLex12
namespace Go.Proofs.YtcljdlkebaflpaaDoor
open Go.RowKit
set_option linter.unusedVariables false

/-- A row of strings lies at a block. -/
structure StrsAt (w : World) (g : Nat) (l : List (List UInt8)) : Prop where
  lt : g < w.heap.size
  at_ : ∀ (j : Nat) (t : List UInt8), l[j]? = some t → w.cell? ⟨g, j, none⟩ = some (.string ⟨t.toArray⟩)
theorem StrsAt.mono {w w' : World} {g : Nat} {ts : List (List UInt8)} (h : StrsAt w g ts) (hb : Below w.heap.size w w') : StrsAt w' g ts :=
  ⟨Nat.lt_of_lt_of_le h.lt hb.size, fun j t ht => (hb.cell (p := ⟨g, _, none⟩) h.lt).trans (h.at_ j t ht)⟩
theorem strs_own {w : World} {base : Nat} {v : Value} {n : Nat} {l : List (List UInt8)} (h : w.ownsRow base 9 1 v n (strsV l)) (hn : 0 < n) : ∃ g cap, v = .slice (some ⟨g, 0, none⟩) n cap ∧ StrsAt w g l := by
  obtain ⟨h1, h2⟩ := h
  rcases h2 with ⟨rfl, rfl⟩ | ⟨g, cap, cur, rfl, hbg, hg, hnc, hcm, hsz, htake⟩
  · omega
  · refine ⟨g, cap, rfl, (Array.getElem?_eq_some_iff.1 hg).1, fun j t ht => ?_⟩
    have e := congrArg (fun x => x[j]?) htake
    have hj := (List.getElem?_eq_some_iff.1 ht).1
    have hl : l.length = n := by simpa [strsV] using h1
    simp only [strsV, List.getElem?_map, ht, Option.map_some, Nat.mul_one] at e
    rw [List.getElem?_take, if_pos (by omega), Array.getElem?_toList] at e
    simp [World.cell?, hg, e]
/-- What is asked of a sign by itself, and of two. -/
def oneOK (a : List UInt8) : Bool := match lexL a with
  | .ok x => decide (x = [⟨3, a, 0, 0⟩, ⟨4, [], 0, a.length⟩])
  | .error _ => false
def twoOK (t : List UInt8) : Bool := match lexL t with
  | .ok x => decide (x.flatMap (·.txt) = t) && decide (2 ≤ x.length) && x.all fun u => decide (u.at_ ≤ t.length) && (decide (u.kd ≠ 3) || signL.all fun s => !(decide (u.txt.length < s.length) && decide (s.length ≤ t.length - u.at_) && decide ((t.drop u.at_).take s.length = s)))
  | .error _ => false
theorem one_all : ∀ a ∈ signL, oneOK a = true := by decide +kernel
theorem two_all : ∀ a ∈ signL, ∀ b ∈ signL, twoOK (a ++ b) = true := by decide +kernel
theorem one_lex {a : List UInt8} (h : a ∈ signL) : lexL a = .ok [⟨3, a, 0, 0⟩, ⟨4, [], 0, a.length⟩] := by
  have := one_all a h
  unfold oneOK at this
  split at this
  · rename_i x hx
    rw [hx, of_decide_eq_true this]
  · cases this
theorem two_lex {a b : List UInt8} (ha : a ∈ signL) (hb : b ∈ signL) : ∃ x, lexL (a ++ b) = .ok x ∧ x.flatMap (·.txt) = a ++ b ∧ 2 ≤ x.length ∧
    ∀ u ∈ x, u.at_ ≤ (a ++ b).length ∧ (u.kd = 3 → ∀ s ∈ signL, u.txt.length < s.length → s.length ≤ (a ++ b).length - u.at_ → ((a ++ b).drop u.at_).take s.length ≠ s) := by
  have := two_all a ha b hb
  unfold twoOK at this
  split at this
  · rename_i x hx
    simp only [Bool.and_eq_true, decide_eq_true_eq, List.all_eq_true, Bool.or_eq_true, Bool.not_eq_true', Bool.and_eq_false_iff, decide_eq_false_iff_not] at this
    obtain ⟨⟨h1, h2⟩, h3⟩ := this
    refine ⟨x, hx, h1, h2, fun u hu => ⟨(h3 u hu).1, fun hk s hs l1 l2 he => ?_⟩⟩
    rcases (h3 u hu).2 with h | h
    · exact h hk
    · rcases h s hs with (h | h) | h
      · exact h l1
      · exact h l2
      · exact h he
  · cases this
theorem sign_len : ∀ a ∈ signL, a.length ≤ 3 := by decide
theorem arr_size (l : List UInt8) : (⟨l.toArray⟩ : ByteArray).size = l.length := by simp [ByteArray.size]
theorem arr_rest (l : List UInt8) (p : Nat) (n : Nat) (h : n = l.length) : (⟨l.toArray⟩ : ByteArray).extract p n = ⟨(l.drop p).toArray⟩ := by
  subst h
  rw [Lib.extract_eq]
  rw [List.take_of_length_le (by simp)]
theorem arr_head (l : List UInt8) (n : Nat) : (⟨l.toArray⟩ : ByteArray).extract 0 n = ⟨(l.take n).toArray⟩ := by
  rw [Lib.extract_eq]
  simp
set_option maxRecDepth 100000 in
set_option maxHeartbeats 8000000 in
theorem lexsigns_any (w : World) (hw : Signed w) (i j : Nat) (hi : i < 256) (hj : j < 256) :
    Calls Tryd.prog 8 #[.int .u8 (i : Nat), .int .u8 (j : Nat)] w fun e w' => e = .returned (.bool true) ∧ Below w.heap.size w w' := by
  obtain ⟨ki, hki⟩ : ∃ k : Nat, (i : Int) % 22 = (k : Int) := ⟨i % 22, by omega⟩
  obtain ⟨kj, hkj⟩ : ∃ k : Nat, (j : Int) % 22 = (k : Int) := ⟨j % 22, by omega⟩
  have li : ki < 22 := by omega
  have lj : kj < 22 := by omega
  have zl : signL.length = 22 := rfl
  obtain ⟨A, hA⟩ : ∃ A, signL[ki]? = some A := ⟨_, List.getElem?_eq_getElem (by omega)⟩
  obtain ⟨B, hB⟩ : ∃ B, signL[kj]? = some B := ⟨_, List.getElem?_eq_getElem (by omega)⟩
  have mA := List.mem_of_getElem? hA
  have mB := List.mem_of_getElem? hB
  have nA := sign_len A mA
  have nB := sign_len B mB
  have lA := one_lex mA
  obtain ⟨x, lx, fx, x2, hx⟩ := two_lex mA mB
  have sA := arr_size A
  have sB := arr_size B
  obtain ⟨T, hT⟩ : ∃ T, A ++ B = T := ⟨_, rfl⟩
  have r1 := fun w => run_string_add_lists (P := Tryd.prog) w A B (by omega) (by omega)
  have nT : A.length + B.length = T.length := by rw [← hT]; simp
  rw [hT] at r1 lx fx hx
  have sT := arr_size T
  clear mA mB hT
  obtain ⟨bx, _⟩ := lexL_len lx
  go_enter Tryd.func8, Tryd.ntmps8
  go_wp2_with fail
  refine (shown_any _ hw).mono ?_
  rintro e w1 ⟨rfl, b1⟩
  have hw1 := hw.mono b1
  go_wp2_with fail
  refine (signs_any _ hw1).mono ?_
  rintro e w2 ⟨⟨v, rfl, own⟩, b2⟩
  have hw2 := hw1.mono b2
  replace b1 := below_then b1 b2
  obtain ⟨g, cap, rfl, ss⟩ := strs_own own (by omega)
  have sg := ss.lt
  have cA := ss.at_ ki A hA
  have cB := ss.at_ kj B hB
  clear own b2
  go_wp2_with fail
  refine (tokens_ok _ ⟨A.toArray⟩ [⟨3, A, 0, 0⟩, ⟨4, [], 0, A.length⟩] hw2 (by omega) lA).mono ?_
  rintro e w3 ⟨⟨g1, c1, rfl, t1⟩, b3⟩
  have hw3 := hw2.mono b3
  replace b1 := below_then b1 b3
  replace ss := ss.mono b3
  go_wp2_with fail
  refine (tokens_ok _ ⟨T.toArray⟩ x hw3 (by omega) lx).mono ?_
  rintro e w4 ⟨⟨gx, cx, rfl, tx⟩, b4⟩
  replace b1 := below_then b1 b4
  replace ss := ss.mono b4
  replace t1 := t1.mono b4
  have lt1 := t1.lt
  have ltx := tx.lt
  have sg := ss.lt
  obtain ⟨a0, a1, a2, a3⟩ := t1.at_ 0 _ rfl
  simp only [Nat.zero_mul, Nat.zero_add] at a0 a1 a2 a3
  clear cA cB b3 b4 hw hw1 hw2 hw3 hA hB t1 hki hkj
  go_wp2_with fail
  go_loopw [15, 16] (fun v k w' => ∃ m : Nat, m ≤ x.length ∧ k = .int .i64 (m : Nat) ∧ v = .string ⟨((x.take m).flatMap (·.txt)).toArray⟩ ∧ Below w4.heap.size w4 w') (fun _ k _ => x.length - (intOf k).toNat)
  case atStart => exact ⟨0, Nat.zero_le _, rfl, rfl, Below.refl _ _⟩
  case round =>
    obtain ⟨m, hm, rfl, rfl, bel⟩ := hrel
    have ty := tx.mono bel
    have ly := ty.lt
    by_cases hlt : m < x.length
    · have f1 : decide (m < x.length) = true := by simpa using hlt
      have hxm : x[m]? = some (x[m]'hlt) := List.getElem?_eq_getElem _
      obtain ⟨⟨kd, txt, n, p⟩, hu⟩ : ∃ u, x[m]'hlt = u := ⟨_, rfl⟩
      rw [hu] at hxm
      obtain ⟨hp, hno⟩ := hx _ (List.mem_of_getElem? hxm)
      simp only [] at hp hno
      have hsn : (x.take (m + 1)).flatMap (·.txt) = (x.take m).flatMap (·.txt) ++ txt := by
        rw [List.take_add_one, hxm]
        simp
      have hl1 : ((x.take m).flatMap (·.txt)).length + txt.length ≤ T.length := by
        have e := congrArg List.length fx
        rw [← List.take_append_drop (m + 1) x, List.flatMap_append, hsn] at e
        simp only [List.length_append] at e
        omega
      have r2 := fun w => run_string_add_lists (P := Tryd.prog) w ((x.take m).flatMap (·.txt)) txt (by omega) (by omega)
      rw [← hsn] at r2
      have sX := arr_size txt
      have sR := arr_size (T.drop p)
      have eR := arr_rest T p T.length rfl
      have nR : T.length - p = (T.drop p).length := by simp
      obtain ⟨R, hR⟩ : ∃ R, T.drop p = R := ⟨_, rfl⟩
      rw [hR] at hno sR eR nR
      obtain ⟨c0, c1, c2, c3⟩ := ty.at_ m _ hxm
      simp only [] at c0 c1 c2 c3
      clear hu hR hsn
      go_wp2_with fail
      go_loopw [17] (fun k w' => ∃ i : Nat, i ≤ 22 ∧ k = .int .i64 (i : Nat) ∧ Below w4.heap.size w4 w') (fun k _ => 22 - (intOf k).toNat)
      case atStart => exact ⟨0, Nat.zero_le _, rfl, bel⟩
      case round =>
        obtain ⟨i, hi, rfl, bel2⟩ := hrel
        have tz := tx.mono bel2
        have sz := ss.mono bel2
        have lz := tz.lt
        have ls := sz.lt
        obtain ⟨z0, z1, z2, z3⟩ := tz.at_ m _ hxm
        simp only [] at z0 z1 z2 z3
        by_cases hi2 : i < 22
        · have g1 : decide (i < 22) = true := by simpa using hi2
          by_cases hk : kd = 3
          · have g2 : ((kd : Int) == 3) = true := by simp; omega
            obtain ⟨S, hS⟩ : ∃ S, signL[i]? = some S := ⟨_, List.getElem?_eq_getElem (by omega)⟩
            have mS := List.mem_of_getElem? hS
            have cS := sz.at_ i S hS
            have sS := arr_size S
            have hno2 := hno hk S mS
            have g6 : IntKind.i64.wrap (S.length : Int) = (S.length : Int) := IntWalk.i64_in _ (by have := sign_len S mS; omega)
            clear hS mS hno
            by_cases l1 : txt.length < S.length
            · have g3 : decide (txt.length < S.length) = true := by simpa using l1
              by_cases l2 : S.length ≤ R.length
              · have g4 : decide (S.length ≤ R.length) = true := by simpa using l2
                have hne := hno2 l1 (by omega)
                have eH := arr_head R S.length
                have g5 : (R.take S.length == S) = false := beq_eq_false_iff_ne.2 hne
                have g7 : ((⟨(R.take S.length).toArray⟩ : ByteArray).toList == (⟨S.toArray⟩ : ByteArray).toList) = false := by
                  rw [ByteArray.toList_mk, ByteArray.toList_mk]
                  exact g5
                clear hno2 hne
                go_wp2_with fail
                go_quiet (fail)
                go_wp2_with fail
                exact ⟨⟨i + 1, by omega, by simp, bel2.trans (below_drewN (Below.refl _ _) _)⟩, by simp [intOf]; omega⟩
              · have g4 : decide (S.length ≤ R.length) = false := by simpa using l2
                clear hno2
                go_wp2_with fail
                go_quiet (fail)
                go_wp2_with fail
                exact ⟨⟨i + 1, by omega, by simp, bel2.trans (below_drewN (Below.refl _ _) _)⟩, by simp [intOf]; omega⟩
            · have g3 : decide (txt.length < S.length) = false := by simpa using l1
              clear hno2
              go_wp2_with fail
              go_quiet (fail)
              go_wp2_with fail
              exact ⟨⟨i + 1, by omega, by simp, bel2.trans (below_drewN (Below.refl _ _) _)⟩, by simp [intOf]; omega⟩
          · have g2 : ((kd : Int) == 3) = false := by simp; omega
            go_wp2_with fail
            exact ⟨⟨m + 1, by omega, by simp, rfl, bel2⟩, by simp [intOf]; omega⟩
        · have g1 : decide (i < 22) = false := by simpa using hi2
          go_wp2_with fail
          exact ⟨⟨m + 1, by omega, by simp, rfl, bel2⟩, by simp [intOf]; omega⟩
    · have f1 : decide (m < x.length) = false := by simpa using hlt
      obtain rfl : m = x.length := by omega
      have e2 : decide ((2 : Int) ≤ (x.length : Int)) = true := by simp; omega
      have e3 : x.take x.length = x := List.take_length
      rw [e3, fx]
      go_wp2_with fail
      go_ret
      exact ⟨rfl, below_then b1 bel⟩
end Go.Proofs.YtcljdlkebaflpaaDoor
