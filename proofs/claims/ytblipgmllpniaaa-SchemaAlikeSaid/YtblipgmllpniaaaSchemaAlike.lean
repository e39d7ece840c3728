/- SchemaAlike returns true. -/
import Derived.Test.YtblipgmllpniaaaSchemaBack
import Derived.Test.YtblipgmllpniaaaBitsLess
import Derived.WalkLawsBesides
namespace Go.Proofs.Ytblipgmllpniaaa
open Go.RowKit
set_option linter.unusedVariables false

/-- The number of the bits of a vector's first numbers. -/
def encV (fs : List (Int × Int)) (vs : List Int) (j : Nat) : Nat := valOf (encTo fs vs j)
theorem encV_step (fs : List (Int × Int)) (vs ws : List Int) (hr : ∀ f ∈ fs, RightF f) (h1 : AllIn fs vs) (h2 : AllIn fs ws) (j : Nat) (hj : j < fs.length) :
    (encV fs vs (j + 1) < encV fs ws (j + 1) ↔ encV fs vs j < encV fs ws j ∨ (encV fs vs j = encV fs ws j ∧ vs.getD j 0 < ws.getD j 0)) ∧
    (encV fs vs (j + 1) = encV fs ws (j + 1) ↔ encV fs vs j = encV fs ws j ∧ vs.getD j 0 = ws.getD j 0) := by
  have a1 := h1 j hj
  have a2 := h2 j hj
  have hrf := hr _ (getD_mem hj)
  have w1 := has_width hrf a1
  have w2 := has_width hrf a2
  unfold hasF at a1 a2
  rw [decide_eq_true_iff] at a1 a2
  have e : ∀ us : List Int, (us.getD j 0 - (fs.getD j (0, 0)).1).toNat < 2 ^ wideF (fs.getD j (0, 0)) → encV fs us (j + 1) = encV fs us j * 2 ^ wideF (fs.getD j (0, 0)) + (us.getD j 0 - (fs.getD j (0, 0)).1).toNat := by
    intro us hu
    unfold encV
    rw [encTo, valOf_append, digs_length, valOf_digs _ _ hu]
  rw [e vs w1, e ws w2]
  generalize 2 ^ wideF (fs.getD j (0, 0)) = p at *
  generalize encV fs vs j = B at *
  generalize encV fs ws j = C at *
  have k1 := lex_num B C _ _ p w1 w2
  have k2 := lex_num C B _ _ p w2 w1
  generalize hq1 : (vs.getD j 0 - (fs.getD j (0, 0)).1).toNat = d1 at *
  generalize hq2 : (ws.getD j 0 - (fs.getD j (0, 0)).1).toNat = d2 at *
  refine ⟨?_, ?_⟩
  · rw [k1]
    constructor
    · rintro (h | ⟨h, h'⟩)
      · exact .inl h
      · exact .inr ⟨h, by omega⟩
    · rintro (h | ⟨h, h'⟩)
      · exact .inl h
      · exact .inr ⟨h, by omega⟩
  · constructor
    · intro h
      have n1 := fun x => Nat.lt_irrefl _ (h ▸ k1.2 x)
      have n2 := fun x => Nat.lt_irrefl _ (h ▸ k2.2 x)
      have hBC : B = C := by
        rcases Nat.lt_trichotomy B C with g | g | g
        · exact absurd (.inl g) n1
        · exact g
        · exact absurd (.inl g) n2
      refine ⟨hBC, ?_⟩
      have m1 : ¬ d1 < d2 := fun g => n1 (.inr ⟨hBC, g⟩)
      have m2 : ¬ d2 < d1 := fun g => n2 (.inr ⟨hBC.symm, g⟩)
      omega
    · rintro ⟨h, h'⟩
      rw [h]
      omega
theorem encV_later (fs : List (Int × Int)) (vs ws : List Int) (hr : ∀ f ∈ fs, RightF f) (h1 : AllIn fs vs) (h2 : AllIn fs ws) (j : Nat) (hne : encV fs vs j ≠ encV fs ws j) : ∀ m, j + m ≤ fs.length →
    (encV fs vs (j + m) < encV fs ws (j + m) ↔ encV fs vs j < encV fs ws j) ∧ encV fs vs (j + m) ≠ encV fs ws (j + m)
  | 0, _ => ⟨Iff.rfl, hne⟩
  | m + 1, h => by
    obtain ⟨i1, i2⟩ := encV_later fs vs ws hr h1 h2 j hne m (by omega)
    obtain ⟨s1, s2⟩ := encV_step fs vs ws hr h1 h2 (j + m) (by omega)
    rw [show j + (m + 1) = j + m + 1 from by omega]
    refine ⟨?_, fun e => i2 (s2.1 e).1⟩
    rw [s1, ← i1]
    constructor
    · rintro (h | ⟨h, _⟩)
      · exact h
      · exact absurd h i2
    · exact .inl
theorem valOf_zeros (bs : List Nat) (k : Nat) : valOf (bs ++ List.replicate k 0) = valOf bs * 2 ^ k := by
  rw [valOf_append, List.length_replicate]
  have : valOf (List.replicate k 0) = 0 := (valOf_zero _ (zeros_bits k)).2 (by simp)
  omega
theorem encBits_val (fs : List (Int × Int)) (vs : List Int) : valOf (encBits fs vs) = encV fs vs fs.length * 2 ^ (8 * bytesF fs - bitsF fs) := by
  unfold encBits padTo encV
  rw [valOf_zeros, encTo_all]
theorem encS_less (fs : List (Int × Int)) (vs ws : List Int) : Op.bytesLess (strOfNums ((encS fs vs).map fun (c : Nat) => (c : Int))).toList (strOfNums ((encS fs ws).map fun (c : Nat) => (c : Int))).toList = decide (encV fs vs fs.length < encV fs ws fs.length) := by
  rw [Lib.strOfNums_toList, Lib.strOfNums_toList, bytesLess_nats _ _ (encS_lt fs vs) (encS_lt fs ws)]
  unfold encS
  rw [pack_less _ _ _ (Nat.le_refl _) (by rw [encBits_length, encBits_length]) (encBits_bits _ _) (encBits_bits _ _), encBits_val, encBits_val, decide_eq_decide, Nat.mul_lt_mul_right (Nat.two_pow_pos _)]
theorem encS_same (fs : List (Int × Int)) (vs ws : List Int) : ((strOfNums ((encS fs vs).map fun (c : Nat) => (c : Int))).toList == (strOfNums ((encS fs ws).map fun (c : Nat) => (c : Int))).toList) = decide (encV fs vs fs.length = encV fs ws fs.length) := by
  rw [Lib.strOfNums_toList, Lib.strOfNums_toList, bytesOf_eq _ _ (encS_lt fs vs) (encS_lt fs ws), decide_eq_decide]
  have hp : 0 < 2 ^ (8 * bytesF fs - bitsF fs) := Nat.two_pow_pos _
  constructor
  · intro h
    have h1 := congrArg bitsOf h
    rw [bitsOf_encS, bitsOf_encS] at h1
    have h2 := congrArg valOf h1
    rw [encBits_val, encBits_val] at h2
    exact Nat.eq_of_mul_eq_mul_right hp h2
  · intro h
    unfold encS
    have h2 : valOf (encBits fs vs) = valOf (encBits fs ws) := by rw [encBits_val, encBits_val, h]
    have h3 := digs_valOf _ (encBits_bits fs vs)
    have h4 := digs_valOf _ (encBits_bits fs ws)
    rw [encBits_length] at h3 h4
    rw [← h3, ← h4, h2]
theorem alike_g1 (w : World) (a : Option Addr) (len cap : Nat) (b : Option Addr) (len' cap' : Nat) (d : Option Addr) (ld cd : Nat) (fs : List (Int × Int)) (vs us : List Int) (hl : FieldsAt w a len fs) (hv : IntsAt w b len' vs) (hu : IntsAt w d ld us) (h1 : 40 < len) :
    Calls Try.prog 5 #[.slice a len cap, .slice b len' cap', .slice d ld cd] w fun e w' => e = .returned (.bool true) ∧ Below w.heap.size w w' := by
  have hsm1 := hl.small
  have hsm2 := hv.small
  have hsm3 := hu.small
  have g1 : decide ((40 : Int) < (len : Int)) = true := by simp; omega
  have g1' : decide (40 < len) = true := by simp; omega
  go_enter Try.func5, Try.ntmps5
  go_wp2_with fail
  refine (shown_any _).mono ?_
  rintro e w1 ⟨rfl, b1⟩
  have Bel := b1
  go_wp2
  go_ret
  exact ⟨rfl, Bel⟩
theorem alike_g2 (w : World) (a : Option Addr) (len cap : Nat) (b : Option Addr) (len' cap' : Nat) (d : Option Addr) (ld cd : Nat) (fs : List (Int × Int)) (vs us : List Int) (hl : FieldsAt w a len fs) (hv : IntsAt w b len' vs) (hu : IntsAt w d ld us) (h1 : len ≤ 40) (h2 : 40 < len') :
    Calls Try.prog 5 #[.slice a len cap, .slice b len' cap', .slice d ld cd] w fun e w' => e = .returned (.bool true) ∧ Below w.heap.size w w' := by
  have hsm1 := hl.small
  have hsm2 := hv.small
  have hsm3 := hu.small
  have g1 : decide ((40 : Int) < (len : Int)) = false := by simp; omega
  have g1' : decide (40 < len) = false := by simp; omega
  have g2 : decide ((40 : Int) < (len' : Int)) = true := by simp; omega
  have g2' : decide (40 < len') = true := by simp; omega
  go_enter Try.func5, Try.ntmps5
  go_wp2_with fail
  refine (shown_any _).mono ?_
  rintro e w1 ⟨rfl, b1⟩
  have Bel := b1
  go_wp2
  go_ret
  exact ⟨rfl, Bel⟩
theorem alike_g3 (w : World) (a : Option Addr) (len cap : Nat) (b : Option Addr) (len' cap' : Nat) (d : Option Addr) (ld cd : Nat) (fs : List (Int × Int)) (vs us : List Int) (hl : FieldsAt w a len fs) (hv : IntsAt w b len' vs) (hu : IntsAt w d ld us) (h1 : len ≤ 40) (h2 : len' ≤ 40) (h3 : 40 < ld) :
    Calls Try.prog 5 #[.slice a len cap, .slice b len' cap', .slice d ld cd] w fun e w' => e = .returned (.bool true) ∧ Below w.heap.size w w' := by
  have hsm1 := hl.small
  have hsm2 := hv.small
  have hsm3 := hu.small
  have g1 : decide ((40 : Int) < (len : Int)) = false := by simp; omega
  have g1' : decide (40 < len) = false := by simp; omega
  have g2 : decide ((40 : Int) < (len' : Int)) = false := by simp; omega
  have g2' : decide (40 < len') = false := by simp; omega
  have g3 : decide ((40 : Int) < (ld : Int)) = true := by simp; omega
  have g3' : decide (40 < ld) = true := by simp; omega
  go_enter Try.func5, Try.ntmps5
  go_wp2_with fail
  refine (shown_any _).mono ?_
  rintro e w1 ⟨rfl, b1⟩
  have Bel := b1
  go_wp2
  go_ret
  exact ⟨rfl, Bel⟩
theorem alike_g4 (w : World) (a : Option Addr) (len cap : Nat) (b : Option Addr) (len' cap' : Nat) (d : Option Addr) (ld cd : Nat) (fs : List (Int × Int)) (vs us : List Int) (hl : FieldsAt w a len fs) (hv : IntsAt w b len' vs) (hu : IntsAt w d ld us) (h1 : len ≤ 40) (h2 : len' ≤ 40) (h3 : ld ≤ 40) (hr : ¬ RightS2 fs) :
    Calls Try.prog 5 #[.slice a len cap, .slice b len' cap', .slice d ld cd] w fun e w' => e = .returned (.bool true) ∧ Below w.heap.size w w' := by
  have hsm1 := hl.small
  have hsm2 := hv.small
  have hsm3 := hu.small
  have g1 : decide ((40 : Int) < (len : Int)) = false := by simp; omega
  have g1' : decide (40 < len) = false := by simp; omega
  have g2 : decide ((40 : Int) < (len' : Int)) = false := by simp; omega
  have g2' : decide (40 < len') = false := by simp; omega
  have g3 : decide ((40 : Int) < (ld : Int)) = false := by simp; omega
  have g3' : decide (40 < ld) = false := by simp; omega
  have HR := Lib.hid (show decide (RightS2 fs) = false by simpa using hr)
  go_enter Try.func5, Try.ntmps5
  go_wp2_with fail
  refine (shown_any _).mono ?_
  rintro e w1 ⟨rfl, b1⟩
  have hl := hl.mono b1
  have Bel := b1
  go_wp2_with fail
  refine (refright2_any _ _ _ _ fs hl).mono ?_
  rintro e w2 ⟨rfl, b2⟩
  have hl := hl.mono b2
  have Bel := below_then Bel b2
  rw [HR.out]
  go_wp2
  go_ret
  exact ⟨rfl, Bel⟩
theorem alike_n1 (w : World) (a : Option Addr) (len cap : Nat) (b : Option Addr) (len' cap' : Nat) (d : Option Addr) (ld cd : Nat) (fs : List (Int × Int)) (vs us : List Int) (hl : FieldsAt w a len fs) (hv : IntsAt w b len' vs) (hu : IntsAt w d ld us) (h1 : len ≤ 40) (h2 : len' ≤ 40) (h3 : ld ≤ 40) (hr : RightS2 fs) (c : Int) (hcv : inS fs vs = c) (h0 : c ≠ 0) (c2 : Int) (hcu : inS fs us = c2) :
    Calls Try.prog 5 #[.slice a len cap, .slice b len' cap', .slice d ld cd] w fun e w' => e = .returned (.bool true) ∧ Below w.heap.size w w' := by
  have hsm1 := hl.small
  have hsm2 := hv.small
  have hsm3 := hu.small
  have g1 : decide ((40 : Int) < (len : Int)) = false := by simp; omega
  have g1' : decide (40 < len) = false := by simp; omega
  have g2 : decide ((40 : Int) < (len' : Int)) = false := by simp; omega
  have g2' : decide (40 < len') = false := by simp; omega
  have g3 : decide ((40 : Int) < (ld : Int)) = false := by simp; omega
  have g3' : decide (40 < ld) = false := by simp; omega
  have HR := Lib.hid (show decide (RightS2 fs) = true by simpa using hr)
  have hrr := hr.2.2
  obtain ⟨xV, hxV⟩ : ∃ x, (if c = 0 then encS fs vs else []) = x := ⟨_, rfl⟩
  have HEV := Lib.hid hxV
  clear hxV
  obtain ⟨xU, hxU⟩ : ∃ x, (if c2 = 0 then encS fs us else []) = x := ⟨_, rfl⟩
  have HEU := Lib.hid hxU
  clear hxU
  have HCV := Lib.hid hcv
  have HCU := Lib.hid hcu
  have e0 : (c != 0) = true := by simpa using h0
  clear hcv hcu hr
  go_enter Try.func5, Try.ntmps5
  go_wp2_with fail
  refine (shown_any _).mono ?_
  rintro e w1 ⟨rfl, b1⟩
  have hl := hl.mono b1
  have hv := hv.mono b1
  have hu := hu.mono b1
  have Bel := b1
  go_wp2_with fail
  refine (refright2_any _ _ _ _ fs hl).mono ?_
  rintro e w2 ⟨rfl, b2⟩
  have hl := hl.mono b2
  have hv := hv.mono b2
  have hu := hu.mono b2
  have Bel := below_then Bel b2
  rw [HR.out]
  go_wp2_with fail
  refine (schemaencode_any _ _ _ _ _ _ _ fs vs hrr h1 hl hv _ c HCV.out HEV.out).mono ?_
  rintro e w3 ⟨xa, xn, xc, rfl, y, b3⟩
  have hl := hl.mono b3
  have hv := hv.mono b3
  have hu := hu.mono b3
  have Bel := below_then Bel b3
  go_wp2_with fail
  refine (schemaencode_any _ _ _ _ _ _ _ fs us hrr h1 hl hu _ c2 HCU.out HEU.out).mono ?_
  rintro e w4 ⟨ya, yn, yc, rfl, z, b4⟩
  have hl := hl.mono b4
  have hv := hv.mono b4
  have hu := hu.mono b4
  have y := y.mono b4
  have Bel := below_then Bel b4
  go_wp2
  go_ret
  exact ⟨rfl, Bel⟩
theorem alike_n2 (w : World) (a : Option Addr) (len cap : Nat) (b : Option Addr) (len' cap' : Nat) (d : Option Addr) (ld cd : Nat) (fs : List (Int × Int)) (vs us : List Int) (hl : FieldsAt w a len fs) (hv : IntsAt w b len' vs) (hu : IntsAt w d ld us) (h1 : len ≤ 40) (h2 : len' ≤ 40) (h3 : ld ≤ 40) (hr : RightS2 fs) (hcv : inS fs vs = 0) (c2 : Int) (hcu : inS fs us = c2) (h0 : c2 ≠ 0) :
    Calls Try.prog 5 #[.slice a len cap, .slice b len' cap', .slice d ld cd] w fun e w' => e = .returned (.bool true) ∧ Below w.heap.size w w' := by
  have hsm1 := hl.small
  have hsm2 := hv.small
  have hsm3 := hu.small
  have g1 : decide ((40 : Int) < (len : Int)) = false := by simp; omega
  have g1' : decide (40 < len) = false := by simp; omega
  have g2 : decide ((40 : Int) < (len' : Int)) = false := by simp; omega
  have g2' : decide (40 < len') = false := by simp; omega
  have g3 : decide ((40 : Int) < (ld : Int)) = false := by simp; omega
  have g3' : decide (40 < ld) = false := by simp; omega
  have HR := Lib.hid (show decide (RightS2 fs) = true by simpa using hr)
  have hrr := hr.2.2
  have HEV := Lib.hid (show (if (0 : Int) = 0 then encS fs vs else []) = encS fs vs from rfl)
  obtain ⟨xU, hxU⟩ : ∃ x, (if c2 = 0 then encS fs us else []) = x := ⟨_, rfl⟩
  have HEU := Lib.hid hxU
  clear hxU
  have HCV := Lib.hid hcv
  have HCU := Lib.hid hcu
  have e0 : (c2 != 0) = true := by simpa using h0
  clear hcv hcu hr
  go_enter Try.func5, Try.ntmps5
  go_wp2_with fail
  refine (shown_any _).mono ?_
  rintro e w1 ⟨rfl, b1⟩
  have hl := hl.mono b1
  have hv := hv.mono b1
  have hu := hu.mono b1
  have Bel := b1
  go_wp2_with fail
  refine (refright2_any _ _ _ _ fs hl).mono ?_
  rintro e w2 ⟨rfl, b2⟩
  have hl := hl.mono b2
  have hv := hv.mono b2
  have hu := hu.mono b2
  have Bel := below_then Bel b2
  rw [HR.out]
  go_wp2_with fail
  refine (schemaencode_any _ _ _ _ _ _ _ fs vs hrr h1 hl hv _ 0 HCV.out HEV.out).mono ?_
  rintro e w3 ⟨xa, xn, xc, rfl, y, b3⟩
  have hl := hl.mono b3
  have hv := hv.mono b3
  have hu := hu.mono b3
  have Bel := below_then Bel b3
  go_wp2_with fail
  refine (schemaencode_any _ _ _ _ _ _ _ fs us hrr h1 hl hu _ c2 HCU.out HEU.out).mono ?_
  rintro e w4 ⟨ya, yn, yc, rfl, z, b4⟩
  have hl := hl.mono b4
  have hv := hv.mono b4
  have hu := hu.mono b4
  have y := y.mono b4
  have Bel := below_then Bel b4
  go_wp2
  go_ret
  exact ⟨rfl, Bel⟩
set_option maxHeartbeats 800000 in
theorem alike_yes (w : World) (a : Option Addr) (len cap : Nat) (b : Option Addr) (len' cap' : Nat) (d : Option Addr) (ld cd : Nat) (fs : List (Int × Int)) (vs us : List Int) (hl : FieldsAt w a len fs) (hv : IntsAt w b len' vs) (hu : IntsAt w d ld us) (h1 : len ≤ 40) (h2 : len' ≤ 40) (h3 : ld ≤ 40) (hr : RightS2 fs) (hcv : inS fs vs = 0) (hcu : inS fs us = 0) :
    Calls Try.prog 5 #[.slice a len cap, .slice b len' cap', .slice d ld cd] w fun e w' => e = .returned (.bool true) ∧ Below w.heap.size w w' := by
  have hsm1 := hl.small
  have hsm2 := hv.small
  have hsm3 := hu.small
  have g1 : decide ((40 : Int) < (len : Int)) = false := by simp; omega
  have g1' : decide (40 < len) = false := by simp; omega
  have g2 : decide ((40 : Int) < (len' : Int)) = false := by simp; omega
  have g2' : decide (40 < len') = false := by simp; omega
  have g3 : decide ((40 : Int) < (ld : Int)) = false := by simp; omega
  have g3' : decide (40 < ld) = false := by simp; omega
  have HR := Lib.hid (show decide (RightS2 fs) = true by simpa using hr)
  have hrr := hr.2.2
  have HEV := Lib.hid (show (if (0 : Int) = 0 then encS fs vs else []) = encS fs vs from rfl)
  have HEU := Lib.hid (show (if (0 : Int) = 0 then encS fs us else []) = encS fs us from rfl)
  have HCV := Lib.hid hcv
  have HCU := Lib.hid hcu
  obtain ⟨hlv, hav⟩ := inS_zero hcv
  obtain ⟨hlu, hau⟩ := inS_zero hcu
  have hll := hl.len_eq
  have q1 : len' = len := by rw [← hv.len_eq, hlv, hll]
  have q2 : ld = len := by rw [← hu.len_eq, hlu, hll]
  subst q1 q2
  obtain ⟨LE, hLE⟩ : ∃ LE, LE = decide (encV fs vs fs.length < encV fs us fs.length) := ⟨_, rfl⟩
  obtain ⟨SA, hSA⟩ : ∃ SA, SA = decide (encV fs vs fs.length = encV fs us fs.length) := ⟨_, rfl⟩
  have hls := encS_less fs vs us
  have heq := encS_same fs vs us
  rw [← hLE] at hls
  rw [← hSA] at heq
  have HLE := Lib.hid hLE
  have HSA := Lib.hid hSA
  have HL := Lib.hid hll
  clear hcv hcu hr hLE hSA hlv hlu hll
  go_enter Try.func5, Try.ntmps5
  have hv0 := hv
  have hu0 := hu
  go_wp2_with fail
  refine (shown_any _).mono ?_
  rintro e w1 ⟨rfl, b1⟩
  have hl := hl.mono b1
  have hv := hv.mono b1
  have hu := hu.mono b1
  have Bel := b1
  go_wp2_with fail
  refine (refright2_any _ _ _ _ fs hl).mono ?_
  rintro e w2 ⟨rfl, b2⟩
  have hl := hl.mono b2
  have hv := hv.mono b2
  have hu := hu.mono b2
  have Bel := below_then Bel b2
  rw [HR.out]
  go_wp2_with fail
  refine (schemaencode_any _ _ _ _ _ _ _ fs vs hrr h1 hl hv _ 0 HCV.out HEV.out).mono ?_
  rintro e w3 ⟨xa, xn, xc, rfl, y, b3⟩
  have hl := hl.mono b3
  have hv := hv.mono b3
  have hu := hu.mono b3
  have Bel := below_then Bel b3
  go_wp2_with fail
  refine (schemaencode_any _ _ _ _ _ _ _ fs us hrr h1 hl hu _ 0 HCU.out HEU.out).mono ?_
  rintro e w4 ⟨ya, yn, yc, rfl, z, b4⟩
  have hl := hl.mono b4
  have hv := hv.mono b4
  have hu := hu.mono b4
  have y := y.mono b4
  have Bel := below_then Bel b4
  go_wp2
  go_loopw [12, 13, 14] (fun ls sa i wr => ∃ (j : Nat) (L S : Bool), j ≤ ld ∧ i = .int .i64 (j : Int) ∧ ls = .bool L ∧ sa = .bool S ∧ Hid (L = decide (encV fs vs j < encV fs us j) ∧ S = decide (encV fs vs j = encV fs us j)) ∧ BytesAt wr xa xn xc (encS fs vs) ∧ BytesAt wr ya yn yc (encS fs us) ∧ Below w.heap.size w wr) (fun _ _ i _ => ld - (intOf i).toNat)
  case atStart => exact ⟨0, false, true, by omega, rfl, rfl, rfl, by simp [Hid, encV, encTo], y, z, Bel⟩
  case round =>
    obtain ⟨j, L, S, hj, rfl, rfl, rfl, hinv, yb, zb, Bel'⟩ := hrel
    by_cases hgo : j < ld ∧ S = true
    · obtain ⟨hlt, rfl⟩ := hgo
      have Bw := Bel'
      obtain ⟨b1', o1, rfl, p1, r1⟩ := hv0.at_.resolve_left (by omega)
      obtain ⟨b2', o2, rfl, p2, r2⟩ := hu0.at_.resolve_left (by omega)
      have c1 := (Bw.cell (p := ⟨b1', o1 + j, none⟩) p1).trans (r1 j hlt)
      have c2 := (Bw.cell (p := ⟨b2', o2 + j, none⟩) p2).trans (r2 j hlt)
      have hjl : j < fs.length := by rw [HL.out]; exact hlt
      obtain ⟨s1, s2⟩ := encV_step fs vs us hrr hav hau j hjl
      have hjlt : (j : Int) < (ld : Int) := by omega
      have i2 := hinv.out.2
      have heqj : encV fs vs j = encV fs us j := by simpa using i2.symm
      generalize vs.getD j 0 = x at *
      generalize us.getD j 0 = v at *
      have HX : Hid ((decide (x < v)) = decide (encV fs vs (j + 1) < encV fs us (j + 1)) ∧ (x == v) = decide (encV fs vs (j + 1) = encV fs us (j + 1))) := by
        refine ⟨?_, ?_⟩
        · rw [decide_eq_decide, s1]
          constructor
          · intro h; exact .inr ⟨heqj, h⟩
          · rintro (h | h)
            · omega
            · exact h.2
        · rw [Bool.eq_iff_iff, beq_iff_eq, decide_eq_true_iff, s2]
          exact ⟨fun h => ⟨heqj, h⟩, fun h => h.2⟩
      clear s1 s2 i2 heqj hls heq hinv y z hv hu hl r1 r2
      go_wp2
      go_quiet (fail)
      go_wp2
      go_quiet (fail)
      go_wp2
      go_roundw
      case rel => exact ⟨j + 1, _, _, by omega, by go_num, rfl, rfl, HX, yb.mono (below_drewN (Below.refl _ _) _), zb.mono (below_drewN (Below.refl _ _) _), below_then Bel' (below_drewN (Below.refl _ _) _)⟩
      case measure => simp [intOf]; omega
    · have hfin : L = LE ∧ S = SA := by
        obtain ⟨i1, i2⟩ := hinv.out
        by_cases hS : S = true
        · obtain rfl : j = ld := by
            by_cases h : j < ld
            · exact absurd ⟨h, hS⟩ hgo
            · omega
          rw [i1, i2, HLE.out, HSA.out, HL.out]
          exact ⟨rfl, rfl⟩
        · have hne : encV fs vs j ≠ encV fs us j := by
            intro e
            rw [i2, decide_eq_true e] at hS
            exact hS rfl
          have hjf : j ≤ fs.length := by rw [HL.out]; exact hj
          obtain ⟨k1, k2⟩ := encV_later fs vs us hrr hav hau j hne (fs.length - j) (by omega)
          rw [show j + (fs.length - j) = fs.length from by omega] at k1 k2
          rw [i1, i2, HLE.out, HSA.out, decide_eq_decide, decide_eq_false hne, decide_eq_false k2]
          exact ⟨k1.symm, rfl⟩
      obtain ⟨rfl, rfl⟩ := hfin
      have cv1 := str_eq yb _ rfl
      have cv2 := str_eq zb _ rfl
      clear hinv
      by_cases hlt : j < ld
      · have hSf : S = false := by
          cases hS : S with
          | true => exact absurd ⟨hlt, hS⟩ hgo
          | false => rfl
        have hjlt : decide ((j : Int) < (ld : Int)) = true := by simp; omega
        have hjlt' : decide (j < ld) = true := by simpa using hlt
        clear hgo
        go_wp2
        go_ret
        exact ⟨rfl, Bel'⟩
      · have hjlt : decide ((j : Int) < (ld : Int)) = false := by simp; omega
        have hjlt' : decide (j < ld) = false := by simpa using hlt
        clear hgo
        go_wp2
        go_ret
        exact ⟨rfl, Bel'⟩
theorem schemaalike_any (w : World) (a : Option Addr) (len cap : Nat) (b : Option Addr) (len' cap' : Nat) (d : Option Addr) (ld cd : Nat) (fs : List (Int × Int)) (vs us : List Int) (hl : FieldsAt w a len fs) (hv : IntsAt w b len' vs) (hu : IntsAt w d ld us) :
    Calls Try.prog 5 #[.slice a len cap, .slice b len' cap', .slice d ld cd] w fun e w' => e = .returned (.bool true) ∧ Below w.heap.size w w' := by
  by_cases h1 : len ≤ 40
  case neg => exact alike_g1 w a len cap b len' cap' d ld cd fs vs us hl hv hu (by omega)
  by_cases h2 : len' ≤ 40
  case neg => exact alike_g2 w a len cap b len' cap' d ld cd fs vs us hl hv hu h1 (by omega)
  by_cases h3 : ld ≤ 40
  case neg => exact alike_g3 w a len cap b len' cap' d ld cd fs vs us hl hv hu h1 h2 (by omega)
  by_cases hr : RightS2 fs
  case neg => exact alike_g4 w a len cap b len' cap' d ld cd fs vs us hl hv hu h1 h2 h3 hr
  by_cases c1 : inS fs vs = 0
  case neg => exact alike_n1 w a len cap b len' cap' d ld cd fs vs us hl hv hu h1 h2 h3 hr _ rfl c1 _ rfl
  by_cases c2 : inS fs us = 0
  case neg => exact alike_n2 w a len cap b len' cap' d ld cd fs vs us hl hv hu h1 h2 h3 hr c1 _ rfl c2
  exact alike_yes w a len cap b len' cap' d ld cd fs vs us hl hv hu h1 h2 h3 hr c1 c2
end Go.Proofs.Ytblipgmllpniaaa
