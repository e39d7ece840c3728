/- LexNumbers returns true. -/
import Derived.Test.YtcljdlkebaflpaaDoorLexSigns
namespace Go.Proofs.YtcljdlkebaflpaaDoor
open Go.RowKit
set_option linter.unusedVariables false

theorem digit_byte (m : Nat) : 48 + (m : Int) % 10 = ((48 + m % 10 : Nat) : Int) := by omega
theorem digit_text (w : World) (D : List UInt8) (m : Nat) (hD : D.length ≤ 10) :
    (convert 37 9 (.slice (some ⟨w.heap.size, 0, none⟩) 1 1)).run Tryd.prog (w.alloc (.cells #[.int .u8 ((48 + m % 10 : Nat) : Int)] 5)) = .ok (.string ⟨[UInt8.ofNat (48 + m % 10)].toArray⟩) (w.alloc (.cells #[.int .u8 ((48 + m % 10 : Nat) : Int)] 5)) ∧
    ∀ w : World, (Op.stringOp .add ⟨[UInt8.ofNat (48 + m % 10)].toArray⟩ ⟨D.toArray⟩).run Tryd.prog w = .ok (.string ⟨(UInt8.ofNat (48 + m % 10) :: D).toArray⟩) w := by
  refine ⟨?_, fun w => run_string_add_lists (P := Tryd.prog) w [UInt8.ofNat (48 + m % 10)] D (by simp) (by omega)⟩
  have hb : BytesAt (w.alloc (.cells #[.int .u8 ((48 + m % 10 : Nat) : Int)] 5)) (some ⟨w.heap.size, 0, none⟩) 1 1 [48 + m % 10] := by
    refine ⟨rfl, by omega, fun n hn => by simp at hn; omega, nofun, .inr ⟨w.heap.size, 0, rfl, by simp, fun i hi => ?_⟩⟩
    obtain rfl : i = 0 := by omega
    have h := heap_alloc_new w (.cells #[.int .u8 ((48 + m % 10 : Nat) : Int)] 5)
    rw [cell_of_row _ _ _ _ _ _ h]
    rfl
  rw [hb.conv (P := Tryd.prog) 37 5 9 Tryd.underlying37 Tryd.underlying5 Tryd.underlying9]
  congr 2
theorem valN_noughts : ∀ (k : Nat) (D : List UInt8), valN (List.replicate k 48 ++ D) 0 = valN D 0 := by
  intro k
  induction k with
  | zero => intro D; simp
  | succ k ih =>
    intro D
    rw [List.replicate_succ, List.cons_append, valN_cons, ih]
    simp
def repL (k : Nat) (c : UInt8) : List UInt8 := List.replicate k c
theorem repL_eq (k : Nat) (c : UInt8) : List.replicate k c = repL k c := rfl
theorem repL_len (k : Nat) (c : UInt8) : (repL k c).length = k := by simp [repL]
theorem repL_snoc (k : Nat) (c : UInt8) : repL k c ++ [c] = repL (k + 1) c := List.replicate_succ'.symm
def emptyOf : Value → Nat
  | .string b => if b.size = 0 then 1 else 0
  | _ => 0
theorem emptyOf_nil : emptyOf (.string ⟨#[]⟩) = 1 := rfl
theorem emptyOf_cons (c : UInt8) (l : List UInt8) : emptyOf (.string ⟨(c :: l).toArray⟩) = 0 := by simp [emptyOf, ByteArray.size]
theorem emptyOf_le (l : List UInt8) (h : l ≠ []) : emptyOf (.string ⟨l.toArray⟩) = 0 := by
  cases l with
  | nil => exact absurd rfl h
  | cons c r => exact emptyOf_cons c r
theorem digit_ok (m : Nat) : isDigit (((UInt8.ofNat (48 + m % 10)).toNat : Nat) : Int) = true ∧ (UInt8.ofNat (48 + m % 10)).toNat = 48 + m % 10 := by
  have e : (UInt8.ofNat (48 + m % 10)).toNat = 48 + m % 10 := by
    rw [UInt8.toNat_ofNat']
    omega
  rw [e]
  refine ⟨?_, rfl⟩
  simp [isDigit]
  omega
theorem digits_step {n m : Nat} {D : List UInt8} (hn : n < 4294967296) (h0 : 0 < m ∨ D = []) (hD : Digits D) (h1 : m = n / 10 ^ D.length) (h2 : n = m * 10 ^ D.length + valN D 0) :
    Digits (UInt8.ofNat (48 + m % 10) :: D) ∧ (UInt8.ofNat (48 + m % 10) :: D).length ≤ 10 ∧ m / 10 = n / 10 ^ (UInt8.ofNat (48 + m % 10) :: D).length ∧ n = m / 10 * 10 ^ (UInt8.ofNat (48 + m % 10) :: D).length + valN (UInt8.ofNat (48 + m % 10) :: D) 0 := by
  obtain ⟨e1, e2⟩ := digit_ok m
  refine ⟨?_, ?_, ?_, ?_⟩
  · intro c hc
    rcases List.mem_cons.1 hc with rfl | hc
    · exact e1
    · exact hD c hc
  · rw [List.length_cons]
    rcases h0 with h0 | rfl
    · refine Nat.lt_of_not_le fun hle => ?_
      have : 10 ^ 10 ≤ 10 ^ D.length := Nat.pow_le_pow_right (by omega) hle
      have : n / 10 ^ D.length = 0 := Nat.div_eq_of_lt (by omega)
      omega
    · simp
  · rw [List.length_cons, Nat.pow_succ, ← Nat.div_div_eq_div_mul, ← h1]
  · rw [valN_cons, e2, List.length_cons, Nat.pow_succ]
    have e3 : 48 + m % 10 - 48 = m % 10 := by omega
    rw [e3]
    have e4 : m = m / 10 * 10 + m % 10 := by omega
    have e5 : m * 10 ^ D.length = (m / 10 * 10 + m % 10) * 10 ^ D.length := by rw [← e4]
    rw [e5, Nat.add_mul] at h2
    rw [Nat.mul_comm (10 ^ D.length) 10, ← Nat.mul_assoc]
    omega
set_option maxRecDepth 100000 in
set_option maxHeartbeats 8000000 in
theorem lexnumbers_any (w : World) (hw : Signed w) (n no lo : Nat) (hn : n < 4294967296) (hno : no < 256) (hlo : lo < 256) :
    Calls Tryd.prog 6 #[.int .u32 (n : Nat), .int .u8 (no : Nat), .int .u8 (lo : Nat)] w fun e w' => e = .returned (.bool true) ∧ Below w.heap.size w w' := by
  go_enter Tryd.func6, Tryd.ntmps6
  go_wp2_with fail
  refine (shown_any _ hw).mono ?_
  rintro e w1 ⟨rfl, b1⟩
  have hw1 := hw.mono b1
  go_wp2_with fail
  go_loopw [9, 10] (fun s v w' => ∃ (D : List UInt8) (m : Nat), s = .string ⟨D.toArray⟩ ∧ v = .int .i64 (m : Nat) ∧ Digits D ∧ D.length ≤ 10 ∧ m = n / 10 ^ D.length ∧ n = m * 10 ^ D.length + valN D 0 ∧ Below w1.heap.size w1 w') (fun s v _ => (intOf v).toNat + emptyOf s)
  case atStart => exact ⟨[], n, rfl, rfl, (fun c h => by simp at h), by simp, by simp, by simp [valN], Below.refl _ _⟩
  case round =>
    obtain ⟨D, m, rfl, rfl, hD, hD10, hm1, hm2, bel⟩ := hrel
    have H1 := Lib.hid hm1
    have H2 := Lib.hid hm2
    clear hm1 hm2
    by_cases hm : 0 < m ∨ D = []
    · obtain ⟨s1, s2, s3, s4⟩ := digits_step hn hm hD H1.out H2.out
      obtain ⟨hcv, r1⟩ := digit_text wr D m hD10
      have hdd := digit_byte m
      obtain ⟨q, hq⟩ : ∃ q : Nat, (m : Int) / 10 = (q : Int) := ⟨m / 10, by omega⟩
      rw [show m / 10 = q by omega] at s3 s4
      have hmn : m ≤ n := by rw [H1.out]; exact Nat.div_le_self _ _
      have hwq : wrap64 (q : Int) = (q : Int) := IntWalk.wrap64_in _ (by omega)
      obtain ⟨d, hd⟩ : ∃ d : Nat, 48 + m % 10 = d := ⟨_, rfl⟩
      rw [hd] at hcv r1 hdd s1 s2 s3 s4
      have S3 := Lib.hid s3
      have S4 := Lib.hid s4
      have hlt : q + 0 < m + emptyOf (.string ⟨D.toArray⟩) := by
        rcases hm with hm | rfl
        · omega
        · rw [show (.string ⟨([] : List UInt8).toArray⟩ : Value) = .string ⟨#[]⟩ from rfl, emptyOf_nil]; omega
      clear hd s3 s4
      by_cases hm0 : 0 < m
      · have f1 : decide (0 < m) = true := by simpa using hm0
        clear hm
        go_wp2_with fail
        refine ⟨⟨_, q, rfl, rfl, s1, s2, S3.out, S4.out, bel.alloc bel.size _⟩, ?_⟩
        rw [emptyOf_cons]
        exact hlt
      · have f1 : decide (0 < m) = false := by simpa using hm0
        have hDn : D = [] := hm.resolve_left hm0
        subst hDn
        clear hm
        go_wp2_with fail
        refine ⟨⟨_, q, rfl, rfl, s1, s2, S3.out, S4.out, bel.alloc bel.size _⟩, ?_⟩
        rw [emptyOf_cons]
        exact hlt
    · have hm0 : ¬ 0 < m := fun h => hm (.inl h)
      have hDn : D ≠ [] := fun h => hm (.inr h)
      have f1 : decide (0 < m) = false := by simpa using hm0
      obtain rfl : m = 0 := by omega
      clear hm
      have hDe : D.isEmpty = false := by cases D with | nil => exact absurd rfl hDn | cons => rfl
      have hv : valN D 0 = n := by have := H2.out; omega
      clear H1 H2 f1 hm0
      obtain ⟨K, hK⟩ : ∃ K : Nat, (no : Int) % 20 = (K : Int) := ⟨no % 20, by omega⟩
      have hK20 : K < 20 := by omega
      have HV := Lib.hid hv
      clear hv
      go_wp2_with fail
      go_loop [9, 11] (fun s i => ∃ j : Nat, j ≤ K ∧ i = .int .i64 (j : Nat) ∧ s = .string ⟨(List.replicate j 48 ++ D).toArray⟩) (fun _ i => K - (intOf i).toNat)
      case atStart => exact ⟨0, Nat.zero_le _, rfl, by rw [List.replicate_zero, List.nil_append]⟩
      case round =>
        obtain ⟨j, hj, rfl, rfl⟩ := hrel
        by_cases hlt : j < K
        · have g1 : decide (j < K) = true := by simpa using hlt
          have r1 := fun w => run_string_add_lists (P := Tryd.prog) w [48] (List.replicate j 48 ++ D) (by simp) (by simp; omega)
          go_wp2_with fail
          exact ⟨⟨j + 1, by omega, by simp, by rw [List.replicate_succ]; simp⟩, by simp [intOf]; omega⟩
        · have g1 : decide (j < K) = false := by simpa using hlt
          obtain rfl : j = K := by omega
          obtain ⟨S, hS⟩ : ∃ S, List.replicate j 48 ++ D = S := ⟨_, rfl⟩
          have sS := arr_size S
          have lS : S.length ≤ 30 := by rw [← hS]; simp; omega
          have neS : S ≠ [] := by rw [← hS]; simp [hDn]
          have dS : Digits S := by
            rw [← hS]
            intro c hc
            rcases List.mem_append.1 hc with h | h
            · rw [List.eq_of_mem_replicate h]; decide
            · exact hD c h
          have vS : valN S 0 = n := by rw [← hS, valN_noughts, HV.out]
          have lx := lexL_digits neS dS (by omega)
          rw [hS]
          have hw2 := hw1.mono bel
          replace b1 := below_then b1 bel
          clear hS hw hw1 bel hD hDn hDe HV hD10
          obtain ⟨L, hL⟩ : ∃ L : Nat, (lo : Int) % 60 = (L : Int) := ⟨lo % 60, by omega⟩
          have hL60 : L < 60 := by omega
          by_cases hbig : 1073741824 < n
          · rw [if_pos (numTo_great _ _ (by omega))] at lx
            go_wp2_with fail
            refine (tokens_err _ ⟨S.toArray⟩ 9 0 hw2 (by omega) lx).mono ?_
            rintro e w3 ⟨rfl, b2⟩
            have hw3 := hw2.mono b2
            replace b1 := below_then b1 b2
            go_wp2_with fail
            go_loop [15, 16] (fun s i => ∃ j : Nat, j ≤ L + 1 ∧ i = .int .i64 (j : Nat) ∧ s = .string ⟨(repL j 97).toArray⟩) (fun _ i => L + 1 - (intOf i).toNat)
            case atStart => exact ⟨0, Nat.zero_le _, rfl, rfl⟩
            case round =>
              obtain ⟨j, hj, rfl, rfl⟩ := hrel
              by_cases hlt : j ≤ L
              · have g1 : decide (j ≤ L) = true := by simpa using hlt
                have r1 := fun w => run_string_add_lists (P := Tryd.prog) w (repL j 97) [97] (by rw [repL_len]; omega) (by simp)
                rw [repL_snoc] at r1
                go_wp2_with fail
                exact ⟨⟨j + 1, by omega, by simp, rfl⟩, by simp [intOf]; omega⟩
              · have g1 : decide (j ≤ L) = false := by simpa using hlt
                obtain rfl : j = L + 1 := by omega
                obtain ⟨M, hM⟩ : ∃ M, L + 1 = M := ⟨_, rfl⟩
                have ln := lexL_name M (by omega) (by omega)
                rw [repL_eq] at ln
                obtain ⟨N, hN⟩ : ∃ N, repL M 97 = N := ⟨_, rfl⟩
                have lN : N.length = M := by rw [← hN, repL_len]
                rw [hM, hN]
                rw [hN] at ln
                have sN := arr_size N
                rw [lN] at sN
                have r1 := fun w => run_string_add_lists (P := Tryd.prog) w [32] N (by simp) (by omega)
                have r2 := fun w => run_string_add_lists (P := Tryd.prog) w (32 :: N) [40] (by simp; omega) (by simp)
                obtain ⟨R, hR⟩ : ∃ R, 32 :: N ++ [40] = R := ⟨_, rfl⟩
                rw [hR] at ln
                rw [hR] at r2
                have lR : R.length ≤ 62 := by rw [← hR]; simp; omega
                have sR := arr_size R
                have q0 : decide ((1073741824 : Int) < (n : Int)) = true := by simp; omega
                clear hR hN g1 hlt
                by_cases hM32 : 32 < M
                · rw [if_pos hM32] at ln
                  have q1 : decide (M ≤ 32) = false := by simpa using hM32
                  go_wp2_with fail
                  refine (tokens_err _ ⟨R.toArray⟩ 9 1 hw3 (by omega) ln).mono ?_
                  rintro e w4 ⟨rfl, b4⟩
                  replace b1 := below_then b1 b4
                  go_wp2_with fail
                  go_ret
                  exact ⟨rfl, b1⟩
                · rw [if_neg hM32] at ln
                  have q1 : decide (M ≤ 32) = true := by simp; omega
                  go_wp2_with fail
                  refine (tokens_ok _ ⟨R.toArray⟩ _ hw3 (by omega) ln).mono ?_
                  rintro e w4 ⟨⟨g2, c2, rfl, t2⟩, b4⟩
                  replace b1 := below_then b1 b4
                  have lt2 := t2.lt
                  obtain ⟨a0, a1, a2, a3⟩ := t2.at_ 0 _ rfl
                  simp only [Nat.zero_mul, Nat.zero_add] at a0 a1 a2 a3
                  go_wp2_with fail
                  go_ret
                  exact ⟨rfl, b1⟩
          · rw [if_neg (by rw [numTo_small _ _ (by omega)]; omega), numTo_small _ _ (by omega), vS] at lx
            go_wp2_with fail
            refine (tokens_ok _ ⟨S.toArray⟩ _ hw2 (by omega) lx).mono ?_
            rintro e w3 ⟨⟨g1, c1, rfl, t1⟩, b2⟩
            have hw3 := hw2.mono b2
            replace b1 := below_then b1 b2
            go_wp2_with fail
            go_loop [15, 16] (fun s i => ∃ j : Nat, j ≤ L + 1 ∧ i = .int .i64 (j : Nat) ∧ s = .string ⟨(repL j 97).toArray⟩) (fun _ i => L + 1 - (intOf i).toNat)
            case atStart => exact ⟨0, Nat.zero_le _, rfl, rfl⟩
            case round =>
              obtain ⟨j, hj, rfl, rfl⟩ := hrel
              by_cases hlt : j ≤ L
              · have g1 : decide (j ≤ L) = true := by simpa using hlt
                have r1 := fun w => run_string_add_lists (P := Tryd.prog) w (repL j 97) [97] (by rw [repL_len]; omega) (by simp)
                rw [repL_snoc] at r1
                go_wp2_with fail
                exact ⟨⟨j + 1, by omega, by simp, rfl⟩, by simp [intOf]; omega⟩
              · have g1 : decide (j ≤ L) = false := by simpa using hlt
                obtain rfl : j = L + 1 := by omega
                obtain ⟨M, hM⟩ : ∃ M, L + 1 = M := ⟨_, rfl⟩
                have ln := lexL_name M (by omega) (by omega)
                rw [repL_eq] at ln
                obtain ⟨N, hN⟩ : ∃ N, repL M 97 = N := ⟨_, rfl⟩
                have lN : N.length = M := by rw [← hN, repL_len]
                rw [hM, hN]
                rw [hN] at ln
                have sN := arr_size N
                rw [lN] at sN
                have r1 := fun w => run_string_add_lists (P := Tryd.prog) w [32] N (by simp) (by omega)
                have r2 := fun w => run_string_add_lists (P := Tryd.prog) w (32 :: N) [40] (by simp; omega) (by simp)
                obtain ⟨R, hR⟩ : ∃ R, 32 :: N ++ [40] = R := ⟨_, rfl⟩
                rw [hR] at ln
                rw [hR] at r2
                have lR : R.length ≤ 62 := by rw [← hR]; simp; omega
                have sR := arr_size R
                have q0 : decide ((1073741824 : Int) < (n : Int)) = false := by simp; omega
                clear hR hN g1 hlt
                by_cases hM32 : 32 < M
                · rw [if_pos hM32] at ln
                  have q1 : decide (M ≤ 32) = false := by simpa using hM32
                  go_wp2_with fail
                  refine (tokens_err _ ⟨R.toArray⟩ 9 1 hw3 (by omega) ln).mono ?_
                  rintro e w4 ⟨rfl, b4⟩
                  replace b1 := below_then b1 b4
                  replace t1 := t1.mono b4
                  have lt1 := t1.lt
                  obtain ⟨d0, d1, d2, d3⟩ := t1.at_ 0 _ rfl
                  simp only [Nat.zero_mul, Nat.zero_add] at d0 d1 d2 d3
                  go_wp2_with fail
                  go_ret
                  exact ⟨rfl, b1⟩
                · rw [if_neg hM32] at ln
                  have q1 : decide (M ≤ 32) = true := by simp; omega
                  go_wp2_with fail
                  refine (tokens_ok _ ⟨R.toArray⟩ _ hw3 (by omega) ln).mono ?_
                  rintro e w4 ⟨⟨g2, c2, rfl, t2⟩, b4⟩
                  replace b1 := below_then b1 b4
                  have lt2 := t2.lt
                  obtain ⟨a0, a1, a2, a3⟩ := t2.at_ 0 _ rfl
                  simp only [Nat.zero_mul, Nat.zero_add] at a0 a1 a2 a3
                  replace t1 := t1.mono b4
                  have lt1 := t1.lt
                  obtain ⟨d0, d1, d2, d3⟩ := t1.at_ 0 _ rfl
                  simp only [Nat.zero_mul, Nat.zero_add] at d0 d1 d2 d3
                  go_wp2_with fail
                  go_ret
                  exact ⟨rfl, b1⟩
end Go.Proofs.YtcljdlkebaflpaaDoor
