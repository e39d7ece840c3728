/- SchemaBack returns true. -/
import Derived.Test.YtblipgmllpniaaaSchemaHead
namespace Go.Proofs.Ytblipgmllpniaaa
open Go.RowKit
set_option linter.unusedVariables false

theorem refright2_any (w : World) (a : Option Addr) (len cap : Nat) (fs : List (Int × Int)) (hl : FieldsAt w a len fs) :
    Calls Try.prog 10 #[.slice a len cap] w fun e w' => e = .returned (.bool (decide (RightS2 fs))) ∧ Below w.heap.size w w' := by
  by_cases h : len < 1 ∨ 17 < len
  · have e : decide (RightS2 fs) = false := by rw [decide_eq_false_iff_not]; intro h2; have := h2.1; have := h2.2.1; rw [hl.len_eq] at *; omega
    rw [e]
    exact refright2_len w a len cap h hl.small
  · have e : decide (RightS2 fs) = decide (∀ f ∈ fs, RightF f) := by
      rw [decide_eq_decide]
      unfold RightS2
      rw [hl.len_eq]
      constructor
      · intro h2; exact h2.2.2
      · intro h2; exact ⟨by omega, by omega, h2⟩
    rw [e]
    exact refright2_in w a len cap fs (by omega) (by omega) hl
theorem decS_cases (fs : List (Int × Int)) (bl : List Nat) (hb : ∀ n ∈ bl, n < 256) : (decS fs bl = [] ∧ decC fs bl = 2) ∨ (decC fs bl = 0 ∧ inS fs (decS fs bl) = 0 ∧ encS fs (decS fs bl) = bl) := by
  by_cases h : IsEnc fs bl
  · refine .inr ?_
    have e1 : decS fs bl = decTo fs bl fs.length := by unfold decS; rw [if_pos h]
    refine ⟨by unfold decC; rw [if_pos h], ?_, by rw [e1]; exact enc_isEnc hb h⟩
    rw [e1]
    unfold inS
    rw [if_neg (by rw [decTo_length]; omega), if_pos h.2.2]
  · refine .inl ⟨by unfold decS; rw [if_neg h], by unfold decC; rw [if_neg h]⟩
theorem decS_enc (fs : List (Int × Int)) (vs : List Int) (hr : ∀ f ∈ fs, RightF f) (h : inS fs vs = 0) : decS fs (encS fs vs) = vs ∧ decC fs (encS fs vs) = 0 := by
  obtain ⟨h1, h2⟩ := inS_zero h
  have he := isEnc_enc fs vs hr h1 h2
  refine ⟨?_, by unfold decC; rw [if_pos he]⟩
  unfold decS
  rw [if_pos he]
  exact dec_enc fs vs hr h1 h2
theorem schemaback_g1 (w : World) (a : Option Addr) (len cap : Nat) (b : Option Addr) (len' cap' : Nat) (d : Option Addr) (lb cb : Nat) (fs : List (Int × Int)) (vs : List Int) (bl : List Nat) (hl : FieldsAt w a len fs) (hv : IntsAt w b len' vs) (hb : BytesAt w d lb cb bl) (h1 : 40 < len) :
    Calls Try.prog 4 #[.slice a len cap, .slice b len' cap', .slice d lb cb] w fun e w' => e = .returned (.bool true) ∧ Below w.heap.size w w' := by
  have hsm1 := hl.small
  have hsm2 := hv.small
  have hsm3 := hb.small
  have g1 : decide ((40 : Int) < (len : Int)) = true := by simp; omega
  have g1' : decide (40 < len) = true := by simp; omega
  go_enter Try.func4, Try.ntmps4
  go_wp2_with fail
  refine (shown_any _).mono ?_
  rintro e w1 ⟨rfl, b1⟩
  have Bel := b1
  go_wp2
  go_ret
  exact ⟨rfl, Bel⟩
theorem schemaback_g2 (w : World) (a : Option Addr) (len cap : Nat) (b : Option Addr) (len' cap' : Nat) (d : Option Addr) (lb cb : Nat) (fs : List (Int × Int)) (vs : List Int) (bl : List Nat) (hl : FieldsAt w a len fs) (hv : IntsAt w b len' vs) (hb : BytesAt w d lb cb bl) (h1 : len ≤ 40) (h2 : 40 < len') :
    Calls Try.prog 4 #[.slice a len cap, .slice b len' cap', .slice d lb cb] w fun e w' => e = .returned (.bool true) ∧ Below w.heap.size w w' := by
  have hsm1 := hl.small
  have hsm2 := hv.small
  have hsm3 := hb.small
  have g1 : decide ((40 : Int) < (len : Int)) = false := by simp; omega
  have g1' : decide (40 < len) = false := by simp; omega
  have g2 : decide ((40 : Int) < (len' : Int)) = true := by simp; omega
  have g2' : decide (40 < len') = true := by simp; omega
  go_enter Try.func4, Try.ntmps4
  go_wp2_with fail
  refine (shown_any _).mono ?_
  rintro e w1 ⟨rfl, b1⟩
  have Bel := b1
  go_wp2
  go_ret
  exact ⟨rfl, Bel⟩
theorem schemaback_g3 (w : World) (a : Option Addr) (len cap : Nat) (b : Option Addr) (len' cap' : Nat) (d : Option Addr) (lb cb : Nat) (fs : List (Int × Int)) (vs : List Int) (bl : List Nat) (hl : FieldsAt w a len fs) (hv : IntsAt w b len' vs) (hb : BytesAt w d lb cb bl) (h1 : len ≤ 40) (h2 : len' ≤ 40) (h3 : 100 < lb) :
    Calls Try.prog 4 #[.slice a len cap, .slice b len' cap', .slice d lb cb] w fun e w' => e = .returned (.bool true) ∧ Below w.heap.size w w' := by
  have hsm1 := hl.small
  have hsm2 := hv.small
  have hsm3 := hb.small
  have g1 : decide ((40 : Int) < (len : Int)) = false := by simp; omega
  have g1' : decide (40 < len) = false := by simp; omega
  have g2 : decide ((40 : Int) < (len' : Int)) = false := by simp; omega
  have g2' : decide (40 < len') = false := by simp; omega
  have g3 : decide ((100 : Int) < (lb : Int)) = true := by simp; omega
  have g3' : decide (100 < lb) = true := by simp; omega
  go_enter Try.func4, Try.ntmps4
  go_wp2_with fail
  refine (shown_any _).mono ?_
  rintro e w1 ⟨rfl, b1⟩
  have Bel := b1
  go_wp2
  go_ret
  exact ⟨rfl, Bel⟩
theorem schemaback_g4 (w : World) (a : Option Addr) (len cap : Nat) (b : Option Addr) (len' cap' : Nat) (d : Option Addr) (lb cb : Nat) (fs : List (Int × Int)) (vs : List Int) (bl : List Nat) (hl : FieldsAt w a len fs) (hv : IntsAt w b len' vs) (hb : BytesAt w d lb cb bl) (h1 : len ≤ 40) (h2 : len' ≤ 40) (h3 : lb ≤ 100) (hr : ¬ RightS2 fs) :
    Calls Try.prog 4 #[.slice a len cap, .slice b len' cap', .slice d lb cb] w fun e w' => e = .returned (.bool true) ∧ Below w.heap.size w w' := by
  have hsm1 := hl.small
  have hsm2 := hv.small
  have hsm3 := hb.small
  have g1 : decide ((40 : Int) < (len : Int)) = false := by simp; omega
  have g1' : decide (40 < len) = false := by simp; omega
  have g2 : decide ((40 : Int) < (len' : Int)) = false := by simp; omega
  have g2' : decide (40 < len') = false := by simp; omega
  have g3 : decide ((100 : Int) < (lb : Int)) = false := by simp; omega
  have g3' : decide (100 < lb) = false := by simp; omega
  have HR := Lib.hid (show decide (RightS2 fs) = false by simpa using hr)
  go_enter Try.func4, Try.ntmps4
  go_wp2_with fail
  refine (shown_any _).mono ?_
  rintro e w1 ⟨rfl, b1⟩
  have hl := hl.mono b1
  have Bel := b1
  go_wp2_with fail
  refine (refright2_any _ a len cap fs hl).mono ?_
  rintro e w2 ⟨rfl, b2⟩
  have hl := hl.mono b2
  have Bel := below_then Bel b2
  rw [HR.out]
  go_wp2
  go_ret
  exact ⟨rfl, Bel⟩
set_option maxHeartbeats 2000000 in
theorem schemaback_ee (w : World) (a : Option Addr) (len cap : Nat) (b : Option Addr) (len' cap' : Nat) (d : Option Addr) (lb cb : Nat) (fs : List (Int × Int)) (vs : List Int) (bl : List Nat) (hl : FieldsAt w a len fs) (hv : IntsAt w b len' vs) (hb : BytesAt w d lb cb bl) (h1 : len ≤ 40) (h2 : len' ≤ 40) (h3 : lb ≤ 100) (hr : RightS2 fs) (hc : inS fs vs = 0) (hdc : decC fs bl = 0) (hdi : inS fs (decS fs bl) = 0) (hde : encS fs (decS fs bl) = bl) :
    Calls Try.prog 4 #[.slice a len cap, .slice b len' cap', .slice d lb cb] w fun e w' => e = .returned (.bool true) ∧ Below w.heap.size w w' := by
  have hsm1 := hl.small
  have hsm2 := hv.small
  have hsm3 := hb.small
  have g1 : decide ((40 : Int) < (len : Int)) = false := by simp; omega
  have g1' : decide (40 < len) = false := by simp; omega
  have g2 : decide ((40 : Int) < (len' : Int)) = false := by simp; omega
  have g2' : decide (40 < len') = false := by simp; omega
  have g3 : decide ((100 : Int) < (lb : Int)) = false := by simp; omega
  have g3' : decide (100 < lb) = false := by simp; omega
  have HR := Lib.hid (show decide (RightS2 fs) = true by simpa using hr)
  have hrr := hr.2.2
  have HE := Lib.hid (show (if (0 : Int) = 0 then encS fs vs else []) = encS fs vs from rfl)
  obtain ⟨hds2, hdc2⟩ := decS_enc fs vs hrr hc
  have HD2 := Lib.hid hds2
  have HC2 := Lib.hid hdc2
  clear hds2 hdc2
  have HBF := Lib.hid (encS_length fs vs)
  have HC := Lib.hid hc
  have HDC := Lib.hid hdc
  have HDI := Lib.hid hdi
  have HDE := Lib.hid (show (if (0 : Int) = 0 then encS fs (decS fs bl) else []) = bl from hde)
  obtain ⟨dv, hdv⟩ : ∃ dv, decS fs bl = dv := ⟨_, rfl⟩
  rw [hdv] at HDI HDE
  have HDV := Lib.hid hdv
  clear hdi hde hdv
  clear hc hdc hr
  go_enter Try.func4, Try.ntmps4
  go_wp2_with fail
  refine (shown_any _).mono ?_
  rintro e w1 ⟨rfl, b1⟩
  have hl := hl.mono b1
  have hv := hv.mono b1
  have hb := hb.mono b1
  have Bel := b1
  go_wp2_with fail
  refine (refright2_any _ a len cap fs hl).mono ?_
  rintro e w2 ⟨rfl, b2⟩
  have hl := hl.mono b2
  have hv := hv.mono b2
  have hb := hb.mono b2
  have Bel := below_then Bel b2
  rw [HR.out]
  go_wp2_with fail
  refine (schemaencode_any _ a len cap b len' cap' fs vs hrr h1 hl hv _ 0 HC.out HE.out).mono ?_
  rintro e w3 ⟨xa, xn, xc, rfl, y, b3⟩
  have hl := hl.mono b3
  have hv := hv.mono b3
  have hb := hb.mono b3
  have Bel := below_then Bel b3
  go_wp2_with fail
  refine (schemadecode_any _ a len cap d lb cb fs bl hrr h1 hl hb _ _ HDV.out HDC.out).mono ?_
  rintro e w4 ⟨pa, pn, pc, rfl, z, b4⟩
  have hl := hl.mono b4
  have hv := hv.mono b4
  have hb := hb.mono b4
  have y := y.mono b4
  have Bel := below_then Bel b4
  go_wp2_with fail
  refine (schemain_any _ a len cap b len' cap' fs vs (by omega) hl hv).mono ?_
  rintro e w5 ⟨rfl, b5⟩
  have hl := hl.mono b5
  have hv := hv.mono b5
  have hb := hb.mono b5
  have y := y.mono b5
  have z := z.mono b5
  have Bel := below_then Bel b5
  rw [HC.out]
  go_wp2_with fail
  refine (schemaencode_any _ a len cap pa pn pc fs dv hrr h1 hl z _ 0 HDI.out HDE.out).mono ?_
  rintro e w6 ⟨qa, qn, qc, rfl, q, b6⟩
  have hl := hl.mono b6
  have hv := hv.mono b6
  have hb := hb.mono b6
  have y := y.mono b6
  have z := z.mono b6
  have Bel := below_then Bel b6
  have cv1 := str_eq q _ rfl
  have cv2 := str_eq hb _ rfl
  go_wp2_with fail
  refine (schemadecode_any _ a len cap xa xn xc fs _ hrr h1 hl y _ _ HD2.out HC2.out).mono ?_
  rintro e w7 ⟨ra, rn, rc, rfl, z2, b7⟩
  have hl := hl.mono b7
  have hv := hv.mono b7
  have hb := hb.mono b7
  have y := y.mono b7
  have z := z.mono b7
  have q := q.mono b7
  have Bel := below_then Bel b7
  go_wp2_with fail
  refine (vec_any _ ra rn rc b len' cap' vs vs z2 hv).mono ?_
  rintro e w8 ⟨rfl, b8⟩
  have hl := hl.mono b8
  have hv := hv.mono b8
  have hb := hb.mono b8
  have y := y.mono b8
  have z := z.mono b8
  have q := q.mono b8
  have z2 := z2.mono b8
  have Bel := below_then Bel b8
  rw [show decide (vs = vs) = true from by simp]
  go_wp2_with fail
  refine (schemabytes_any _ a len cap fs hrr h1 hl).mono ?_
  rintro e w9 ⟨rfl, b9⟩
  have hl := hl.mono b9
  have hv := hv.mono b9
  have hb := hb.mono b9
  have y := y.mono b9
  have z := z.mono b9
  have q := q.mono b9
  have z2 := z2.mono b9
  have Bel := below_then Bel b9
  have hxn : xn = bytesF fs := by rw [← HBF.out]; exact y.len_eq.symm
  rw [← hxn]
  clear hxn
  go_wp2
  go_ret
  exact ⟨rfl, Bel⟩
set_option maxHeartbeats 2000000 in
theorem schemaback_en (w : World) (a : Option Addr) (len cap : Nat) (b : Option Addr) (len' cap' : Nat) (d : Option Addr) (lb cb : Nat) (fs : List (Int × Int)) (vs : List Int) (bl : List Nat) (hl : FieldsAt w a len fs) (hv : IntsAt w b len' vs) (hb : BytesAt w d lb cb bl) (h1 : len ≤ 40) (h2 : len' ≤ 40) (h3 : lb ≤ 100) (hr : RightS2 fs) (hc : inS fs vs = 0) (hds : decS fs bl = []) (hdc : decC fs bl = 2) :
    Calls Try.prog 4 #[.slice a len cap, .slice b len' cap', .slice d lb cb] w fun e w' => e = .returned (.bool true) ∧ Below w.heap.size w w' := by
  have hsm1 := hl.small
  have hsm2 := hv.small
  have hsm3 := hb.small
  have g1 : decide ((40 : Int) < (len : Int)) = false := by simp; omega
  have g1' : decide (40 < len) = false := by simp; omega
  have g2 : decide ((40 : Int) < (len' : Int)) = false := by simp; omega
  have g2' : decide (40 < len') = false := by simp; omega
  have g3 : decide ((100 : Int) < (lb : Int)) = false := by simp; omega
  have g3' : decide (100 < lb) = false := by simp; omega
  have HR := Lib.hid (show decide (RightS2 fs) = true by simpa using hr)
  have hrr := hr.2.2
  have HE := Lib.hid (show (if (0 : Int) = 0 then encS fs vs else []) = encS fs vs from rfl)
  obtain ⟨hds2, hdc2⟩ := decS_enc fs vs hrr hc
  have HD2 := Lib.hid hds2
  have HC2 := Lib.hid hdc2
  clear hds2 hdc2
  have HBF := Lib.hid (encS_length fs vs)
  have HC := Lib.hid hc
  have HDC := Lib.hid hdc
  have HDV := Lib.hid hds
  clear hds
  clear hc hdc hr
  go_enter Try.func4, Try.ntmps4
  go_wp2_with fail
  refine (shown_any _).mono ?_
  rintro e w1 ⟨rfl, b1⟩
  have hl := hl.mono b1
  have hv := hv.mono b1
  have hb := hb.mono b1
  have Bel := b1
  go_wp2_with fail
  refine (refright2_any _ a len cap fs hl).mono ?_
  rintro e w2 ⟨rfl, b2⟩
  have hl := hl.mono b2
  have hv := hv.mono b2
  have hb := hb.mono b2
  have Bel := below_then Bel b2
  rw [HR.out]
  go_wp2_with fail
  refine (schemaencode_any _ a len cap b len' cap' fs vs hrr h1 hl hv _ 0 HC.out HE.out).mono ?_
  rintro e w3 ⟨xa, xn, xc, rfl, y, b3⟩
  have hl := hl.mono b3
  have hv := hv.mono b3
  have hb := hb.mono b3
  have Bel := below_then Bel b3
  go_wp2_with fail
  refine (schemadecode_any _ a len cap d lb cb fs bl hrr h1 hl hb _ _ HDV.out HDC.out).mono ?_
  rintro e w4 ⟨pa, pn, pc, rfl, z, b4⟩
  have hl := hl.mono b4
  have hv := hv.mono b4
  have hb := hb.mono b4
  have y := y.mono b4
  have Bel := below_then Bel b4
  obtain rfl : pn = 0 := z.len_eq.symm
  go_wp2_with fail
  refine (schemain_any _ a len cap b len' cap' fs vs (by omega) hl hv).mono ?_
  rintro e w5 ⟨rfl, b5⟩
  have hl := hl.mono b5
  have hv := hv.mono b5
  have hb := hb.mono b5
  have y := y.mono b5
  have z := z.mono b5
  have Bel := below_then Bel b5
  rw [HC.out]
  go_wp2_with fail
  refine (schemadecode_any _ a len cap xa xn xc fs _ hrr h1 hl y _ _ HD2.out HC2.out).mono ?_
  rintro e w7 ⟨ra, rn, rc, rfl, z2, b7⟩
  have hl := hl.mono b7
  have hv := hv.mono b7
  have hb := hb.mono b7
  have y := y.mono b7
  have z := z.mono b7
  have Bel := below_then Bel b7
  go_wp2_with fail
  refine (vec_any _ ra rn rc b len' cap' vs vs z2 hv).mono ?_
  rintro e w8 ⟨rfl, b8⟩
  have hl := hl.mono b8
  have hv := hv.mono b8
  have hb := hb.mono b8
  have y := y.mono b8
  have z := z.mono b8
  have z2 := z2.mono b8
  have Bel := below_then Bel b8
  rw [show decide (vs = vs) = true from by simp]
  go_wp2_with fail
  refine (schemabytes_any _ a len cap fs hrr h1 hl).mono ?_
  rintro e w9 ⟨rfl, b9⟩
  have hl := hl.mono b9
  have hv := hv.mono b9
  have hb := hb.mono b9
  have y := y.mono b9
  have z := z.mono b9
  have z2 := z2.mono b9
  have Bel := below_then Bel b9
  have hxn : xn = bytesF fs := by rw [← HBF.out]; exact y.len_eq.symm
  rw [← hxn]
  clear hxn
  go_wp2
  go_ret
  exact ⟨rfl, Bel⟩
set_option maxHeartbeats 2000000 in
theorem schemaback_ne (w : World) (a : Option Addr) (len cap : Nat) (b : Option Addr) (len' cap' : Nat) (d : Option Addr) (lb cb : Nat) (fs : List (Int × Int)) (vs : List Int) (bl : List Nat) (hl : FieldsAt w a len fs) (hv : IntsAt w b len' vs) (hb : BytesAt w d lb cb bl) (h1 : len ≤ 40) (h2 : len' ≤ 40) (h3 : lb ≤ 100) (hr : RightS2 fs) (c : Int) (hc : inS fs vs = c) (h0 : c ≠ 0) (hdc : decC fs bl = 0) (hdi : inS fs (decS fs bl) = 0) (hde : encS fs (decS fs bl) = bl) :
    Calls Try.prog 4 #[.slice a len cap, .slice b len' cap', .slice d lb cb] w fun e w' => e = .returned (.bool true) ∧ Below w.heap.size w w' := by
  have hsm1 := hl.small
  have hsm2 := hv.small
  have hsm3 := hb.small
  have g1 : decide ((40 : Int) < (len : Int)) = false := by simp; omega
  have g1' : decide (40 < len) = false := by simp; omega
  have g2 : decide ((40 : Int) < (len' : Int)) = false := by simp; omega
  have g2' : decide (40 < len') = false := by simp; omega
  have g3 : decide ((100 : Int) < (lb : Int)) = false := by simp; omega
  have g3' : decide (100 < lb) = false := by simp; omega
  have HR := Lib.hid (show decide (RightS2 fs) = true by simpa using hr)
  have hrr := hr.2.2
  have HE := Lib.hid (show (if c = 0 then encS fs vs else []) = [] from if_neg h0)
  have e0 : (c != 0) = true := by simpa using h0
  have HC := Lib.hid hc
  have HDC := Lib.hid hdc
  have HDI := Lib.hid hdi
  have HDE := Lib.hid (show (if (0 : Int) = 0 then encS fs (decS fs bl) else []) = bl from hde)
  obtain ⟨dv, hdv⟩ : ∃ dv, decS fs bl = dv := ⟨_, rfl⟩
  rw [hdv] at HDI HDE
  have HDV := Lib.hid hdv
  clear hdi hde hdv
  clear hc hdc hr
  go_enter Try.func4, Try.ntmps4
  go_wp2_with fail
  refine (shown_any _).mono ?_
  rintro e w1 ⟨rfl, b1⟩
  have hl := hl.mono b1
  have hv := hv.mono b1
  have hb := hb.mono b1
  have Bel := b1
  go_wp2_with fail
  refine (refright2_any _ a len cap fs hl).mono ?_
  rintro e w2 ⟨rfl, b2⟩
  have hl := hl.mono b2
  have hv := hv.mono b2
  have hb := hb.mono b2
  have Bel := below_then Bel b2
  rw [HR.out]
  go_wp2_with fail
  refine (schemaencode_any _ a len cap b len' cap' fs vs hrr h1 hl hv _ c HC.out HE.out).mono ?_
  rintro e w3 ⟨xa, xn, xc, rfl, y, b3⟩
  have hl := hl.mono b3
  have hv := hv.mono b3
  have hb := hb.mono b3
  have Bel := below_then Bel b3
  obtain rfl : xn = 0 := y.len_eq.symm
  go_wp2_with fail
  refine (schemadecode_any _ a len cap d lb cb fs bl hrr h1 hl hb _ _ HDV.out HDC.out).mono ?_
  rintro e w4 ⟨pa, pn, pc, rfl, z, b4⟩
  have hl := hl.mono b4
  have hv := hv.mono b4
  have hb := hb.mono b4
  have y := y.mono b4
  have Bel := below_then Bel b4
  go_wp2_with fail
  refine (schemain_any _ a len cap b len' cap' fs vs (by omega) hl hv).mono ?_
  rintro e w5 ⟨rfl, b5⟩
  have hl := hl.mono b5
  have hv := hv.mono b5
  have hb := hb.mono b5
  have y := y.mono b5
  have z := z.mono b5
  have Bel := below_then Bel b5
  rw [HC.out]
  go_wp2_with fail
  refine (schemaencode_any _ a len cap pa pn pc fs dv hrr h1 hl z _ 0 HDI.out HDE.out).mono ?_
  rintro e w6 ⟨qa, qn, qc, rfl, q, b6⟩
  have hl := hl.mono b6
  have hv := hv.mono b6
  have hb := hb.mono b6
  have y := y.mono b6
  have z := z.mono b6
  have Bel := below_then Bel b6
  have cv1 := str_eq q _ rfl
  have cv2 := str_eq hb _ rfl
  go_wp2
  go_ret
  exact ⟨rfl, Bel⟩
set_option maxHeartbeats 2000000 in
theorem schemaback_nn (w : World) (a : Option Addr) (len cap : Nat) (b : Option Addr) (len' cap' : Nat) (d : Option Addr) (lb cb : Nat) (fs : List (Int × Int)) (vs : List Int) (bl : List Nat) (hl : FieldsAt w a len fs) (hv : IntsAt w b len' vs) (hb : BytesAt w d lb cb bl) (h1 : len ≤ 40) (h2 : len' ≤ 40) (h3 : lb ≤ 100) (hr : RightS2 fs) (c : Int) (hc : inS fs vs = c) (h0 : c ≠ 0) (hds : decS fs bl = []) (hdc : decC fs bl = 2) :
    Calls Try.prog 4 #[.slice a len cap, .slice b len' cap', .slice d lb cb] w fun e w' => e = .returned (.bool true) ∧ Below w.heap.size w w' := by
  have hsm1 := hl.small
  have hsm2 := hv.small
  have hsm3 := hb.small
  have g1 : decide ((40 : Int) < (len : Int)) = false := by simp; omega
  have g1' : decide (40 < len) = false := by simp; omega
  have g2 : decide ((40 : Int) < (len' : Int)) = false := by simp; omega
  have g2' : decide (40 < len') = false := by simp; omega
  have g3 : decide ((100 : Int) < (lb : Int)) = false := by simp; omega
  have g3' : decide (100 < lb) = false := by simp; omega
  have HR := Lib.hid (show decide (RightS2 fs) = true by simpa using hr)
  have hrr := hr.2.2
  have HE := Lib.hid (show (if c = 0 then encS fs vs else []) = [] from if_neg h0)
  have e0 : (c != 0) = true := by simpa using h0
  have HC := Lib.hid hc
  have HDC := Lib.hid hdc
  have HDV := Lib.hid hds
  clear hds
  clear hc hdc hr
  go_enter Try.func4, Try.ntmps4
  go_wp2_with fail
  refine (shown_any _).mono ?_
  rintro e w1 ⟨rfl, b1⟩
  have hl := hl.mono b1
  have hv := hv.mono b1
  have hb := hb.mono b1
  have Bel := b1
  go_wp2_with fail
  refine (refright2_any _ a len cap fs hl).mono ?_
  rintro e w2 ⟨rfl, b2⟩
  have hl := hl.mono b2
  have hv := hv.mono b2
  have hb := hb.mono b2
  have Bel := below_then Bel b2
  rw [HR.out]
  go_wp2_with fail
  refine (schemaencode_any _ a len cap b len' cap' fs vs hrr h1 hl hv _ c HC.out HE.out).mono ?_
  rintro e w3 ⟨xa, xn, xc, rfl, y, b3⟩
  have hl := hl.mono b3
  have hv := hv.mono b3
  have hb := hb.mono b3
  have Bel := below_then Bel b3
  obtain rfl : xn = 0 := y.len_eq.symm
  go_wp2_with fail
  refine (schemadecode_any _ a len cap d lb cb fs bl hrr h1 hl hb _ _ HDV.out HDC.out).mono ?_
  rintro e w4 ⟨pa, pn, pc, rfl, z, b4⟩
  have hl := hl.mono b4
  have hv := hv.mono b4
  have hb := hb.mono b4
  have y := y.mono b4
  have Bel := below_then Bel b4
  obtain rfl : pn = 0 := z.len_eq.symm
  go_wp2_with fail
  refine (schemain_any _ a len cap b len' cap' fs vs (by omega) hl hv).mono ?_
  rintro e w5 ⟨rfl, b5⟩
  have hl := hl.mono b5
  have hv := hv.mono b5
  have hb := hb.mono b5
  have y := y.mono b5
  have z := z.mono b5
  have Bel := below_then Bel b5
  rw [HC.out]
  go_wp2
  go_ret
  exact ⟨rfl, Bel⟩
theorem schemaback_any (w : World) (a : Option Addr) (len cap : Nat) (b : Option Addr) (len' cap' : Nat) (d : Option Addr) (lb cb : Nat) (fs : List (Int × Int)) (vs : List Int) (bl : List Nat) (hl : FieldsAt w a len fs) (hv : IntsAt w b len' vs) (hb : BytesAt w d lb cb bl) :
    Calls Try.prog 4 #[.slice a len cap, .slice b len' cap', .slice d lb cb] w fun e w' => e = .returned (.bool true) ∧ Below w.heap.size w w' := by
  by_cases h1 : len ≤ 40
  case neg => exact schemaback_g1 w a len cap b len' cap' d lb cb fs vs bl hl hv hb (by omega)
  by_cases h2 : len' ≤ 40
  case neg => exact schemaback_g2 w a len cap b len' cap' d lb cb fs vs bl hl hv hb h1 (by omega)
  by_cases h3 : lb ≤ 100
  case neg => exact schemaback_g3 w a len cap b len' cap' d lb cb fs vs bl hl hv hb h1 h2 (by omega)
  by_cases hr : RightS2 fs
  case neg => exact schemaback_g4 w a len cap b len' cap' d lb cb fs vs bl hl hv hb h1 h2 h3 hr
  rcases decS_cases fs bl hb.byte with ⟨e1, e2⟩ | ⟨e1, e2, e3⟩
  · by_cases hc : inS fs vs = 0
    · exact schemaback_en w a len cap b len' cap' d lb cb fs vs bl hl hv hb h1 h2 h3 hr hc e1 e2
    · exact schemaback_nn w a len cap b len' cap' d lb cb fs vs bl hl hv hb h1 h2 h3 hr _ rfl hc e1 e2
  · by_cases hc : inS fs vs = 0
    · exact schemaback_ee w a len cap b len' cap' d lb cb fs vs bl hl hv hb h1 h2 h3 hr hc e1 e2 e3
    · exact schemaback_ne w a len cap b len' cap' d lb cb fs vs bl hl hv hb h1 h2 h3 hr _ rfl hc e1 e2 e3
end Go.Proofs.Ytblipgmllpniaaa
