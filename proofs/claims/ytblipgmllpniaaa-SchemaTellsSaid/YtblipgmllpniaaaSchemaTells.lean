/- SchemaTells returns true. -/
import Derived.Test.YtblipgmllpniaaaSchema15
namespace Go.Proofs.Ytblipgmllpniaaa
open Go.RowKit
set_option linter.unusedVariables false

theorem stells_g1 (w : World) (a : Option Addr) (len cap : Nat) (b : Option Addr) (len' cap' : Nat) (d : Option Addr) (lb cb : Nat) (fs : List (Int × Int)) (vs : List Int) (bl : List Nat) (hl : FieldsAt w a len fs) (hv : IntsAt w b len' vs) (hb : BytesAt w d lb cb bl) (h1 : 40 < len) :
    Calls Try.prog 3 #[.slice a len cap, .slice b len' cap', .slice d lb cb] w fun e w' => e = .returned (.bool true) ∧ Below w.heap.size w w' := by
  have hsm1 := hl.small
  have hsm2 := hv.small
  have hsm3 := hb.small
  have g1 : decide ((40 : Int) < (len : Int)) = true := by simp; omega
  have g1' : decide (40 < len) = true := by simp; omega
  go_enter Try.func3, Try.ntmps3
  go_wp2_with fail
  refine (shown_any _).mono ?_
  rintro e w1 ⟨rfl, b1⟩
  have Bel := b1
  go_wp2
  go_ret
  exact ⟨rfl, Bel⟩
theorem stells_g2 (w : World) (a : Option Addr) (len cap : Nat) (b : Option Addr) (len' cap' : Nat) (d : Option Addr) (lb cb : Nat) (fs : List (Int × Int)) (vs : List Int) (bl : List Nat) (hl : FieldsAt w a len fs) (hv : IntsAt w b len' vs) (hb : BytesAt w d lb cb bl) (h1 : len ≤ 40) (h2 : 40 < len') :
    Calls Try.prog 3 #[.slice a len cap, .slice b len' cap', .slice d lb cb] w fun e w' => e = .returned (.bool true) ∧ Below w.heap.size w w' := by
  have hsm1 := hl.small
  have hsm2 := hv.small
  have hsm3 := hb.small
  have g1 : decide ((40 : Int) < (len : Int)) = false := by simp; omega
  have g1' : decide (40 < len) = false := by simp; omega
  have g2 : decide ((40 : Int) < (len' : Int)) = true := by simp; omega
  have g2' : decide (40 < len') = true := by simp; omega
  go_enter Try.func3, Try.ntmps3
  go_wp2_with fail
  refine (shown_any _).mono ?_
  rintro e w1 ⟨rfl, b1⟩
  have Bel := b1
  go_wp2
  go_ret
  exact ⟨rfl, Bel⟩
theorem stells_g3 (w : World) (a : Option Addr) (len cap : Nat) (b : Option Addr) (len' cap' : Nat) (d : Option Addr) (lb cb : Nat) (fs : List (Int × Int)) (vs : List Int) (bl : List Nat) (hl : FieldsAt w a len fs) (hv : IntsAt w b len' vs) (hb : BytesAt w d lb cb bl) (h1 : len ≤ 40) (h2 : len' ≤ 40) (h3 : 100 < lb) :
    Calls Try.prog 3 #[.slice a len cap, .slice b len' cap', .slice d lb cb] w fun e w' => e = .returned (.bool true) ∧ Below w.heap.size w w' := by
  have hsm1 := hl.small
  have hsm2 := hv.small
  have hsm3 := hb.small
  have g1 : decide ((40 : Int) < (len : Int)) = false := by simp; omega
  have g1' : decide (40 < len) = false := by simp; omega
  have g2 : decide ((40 : Int) < (len' : Int)) = false := by simp; omega
  have g2' : decide (40 < len') = false := by simp; omega
  have g3 : decide ((100 : Int) < (lb : Int)) = true := by simp; omega
  have g3' : decide (100 < lb) = true := by simp; omega
  go_enter Try.func3, Try.ntmps3
  go_wp2_with fail
  refine (shown_any _).mono ?_
  rintro e w1 ⟨rfl, b1⟩
  have Bel := b1
  go_wp2
  go_ret
  exact ⟨rfl, Bel⟩
theorem stells_no (w : World) (a : Option Addr) (len cap : Nat) (b : Option Addr) (len' cap' : Nat) (d : Option Addr) (lb cb : Nat) (fs : List (Int × Int)) (vs : List Int) (bl : List Nat) (hl : FieldsAt w a len fs) (hv : IntsAt w b len' vs) (hb : BytesAt w d lb cb bl) (h1 : len ≤ 40) (h2 : len' ≤ 40) (h3 : lb ≤ 100) (hr : ¬ RightS2 fs) :
    Calls Try.prog 3 #[.slice a len cap, .slice b len' cap', .slice d lb cb] w fun e w' => e = .returned (.bool true) ∧ Below w.heap.size w w' := by
  have hsm1 := hl.small
  have hsm2 := hv.small
  have hsm3 := hb.small
  have g1 : decide ((40 : Int) < (len : Int)) = false := by simp; omega
  have g1' : decide (40 < len) = false := by simp; omega
  have g2 : decide ((40 : Int) < (len' : Int)) = false := by simp; omega
  have g2' : decide (40 < len') = false := by simp; omega
  have g3 : decide ((100 : Int) < (lb : Int)) = false := by simp; omega
  have g3' : decide (100 < lb) = false := by simp; omega
  have HR := Lib.hid (show decide (RightS2 fs) = false by simpa using hr)
  go_enter Try.func3, Try.ntmps3
  go_wp2_with fail
  refine (shown_any _).mono ?_
  rintro e w1 ⟨rfl, b1⟩
  have hl := hl.mono b1
  have hv := hv.mono b1
  have hb := hb.mono b1
  have Bel := b1
  go_wp2_with fail
  refine (refright2_any _ _ _ _ fs hl).mono ?_
  rintro e w2 ⟨rfl, b2⟩
  have hl := hl.mono b2
  have hv := hv.mono b2
  have hb := hb.mono b2
  have Bel := below_then Bel b2
  rw [HR.out]
  go_wp2_with fail
  refine (schemaright_any _ _ _ _ fs hl).mono ?_
  rintro e w3 ⟨rfl, b3⟩
  have hl := hl.mono b3
  have hv := hv.mono b3
  have hb := hb.mono b3
  have Bel := below_then Bel b3
  rw [HR.out]
  go_wp2
  go_ret
  exact ⟨rfl, Bel⟩
set_option maxHeartbeats 4000000 in
theorem stells_yes (w : World) (a : Option Addr) (len cap : Nat) (b : Option Addr) (len' cap' : Nat) (d : Option Addr) (lb cb : Nat) (fs : List (Int × Int)) (vs : List Int) (bl : List Nat) (hl : FieldsAt w a len fs) (hv : IntsAt w b len' vs) (hb : BytesAt w d lb cb bl) (h1 : len ≤ 40) (h2 : len' ≤ 40) (h3 : lb ≤ 100) (hr : RightS2 fs) :
    Calls Try.prog 3 #[.slice a len cap, .slice b len' cap', .slice d lb cb] w fun e w' => e = .returned (.bool true) ∧ Below w.heap.size w w' := by
  have hsm1 := hl.small
  have hsm2 := hv.small
  have hsm3 := hb.small
  have g1 : decide ((40 : Int) < (len : Int)) = false := by simp; omega
  have g1' : decide (40 < len) = false := by simp; omega
  have g2 : decide ((40 : Int) < (len' : Int)) = false := by simp; omega
  have g2' : decide (40 < len') = false := by simp; omega
  have g3 : decide ((100 : Int) < (lb : Int)) = false := by simp; omega
  have g3' : decide (100 < lb) = false := by simp; omega
  have HR := Lib.hid (show decide (RightS2 fs) = true by simpa using hr)
  have hrr := hr.2.2
  have hlen1 : 1 ≤ len := by rw [← hl.len_eq]; exact hr.1
  obtain ⟨c, hc⟩ : ∃ c, inS fs vs = c := ⟨_, rfl⟩
  obtain ⟨bs, hbs⟩ : ∃ bs, (if c = 0 then encS fs vs else []) = bs := ⟨_, rfl⟩
  obtain ⟨dv, hdv⟩ : ∃ dv, decS fs bl = dv := ⟨_, rfl⟩
  obtain ⟨dc, hdc⟩ : ∃ dc, decC fs bl = dc := ⟨_, rfl⟩
  have HC := Lib.hid hc
  have HBS := Lib.hid hbs
  have HDV := Lib.hid hdv
  have HDC := Lib.hid hdc
  clear hr hc hbs hdv hdc
  go_enter Try.func3, Try.ntmps3
  go_wp2_with fail
  refine (shown_any _).mono ?_
  rintro e w1 ⟨rfl, b1⟩
  have hl := hl.mono b1
  have hv := hv.mono b1
  have hb := hb.mono b1
  have Bel := b1
  go_wp2_with fail
  refine (refright2_any _ _ _ _ fs hl).mono ?_
  rintro e w2 ⟨rfl, b2⟩
  have hl := hl.mono b2
  have hv := hv.mono b2
  have hb := hb.mono b2
  have Bel := below_then Bel b2
  rw [HR.out]
  go_wp2_with fail
  refine (schemaright_any _ _ _ _ fs hl).mono ?_
  rintro e w3 ⟨rfl, b3⟩
  have hl := hl.mono b3
  have hv := hv.mono b3
  have hb := hb.mono b3
  have Bel := below_then Bel b3
  rw [HR.out]
  go_wp2_with fail
  refine (schemaencode_any _ _ _ _ _ _ _ fs vs hrr h1 hl hv _ _ HC.out HBS.out).mono ?_
  rintro e w4 ⟨xa, xn, xc, rfl, x, b4⟩
  have hl := hl.mono b4
  have hv := hv.mono b4
  have hb := hb.mono b4
  have Bel := below_then Bel b4
  go_wp2_with fail
  refine (refencode_any _ _ _ _ _ _ _ fs vs hrr h1 hl hv _ _ HC.out HBS.out).mono ?_
  rintro e w5 ⟨ya, yn, yc, rfl, y, b5⟩
  have hl := hl.mono b5
  have hv := hv.mono b5
  have hb := hb.mono b5
  have x := x.mono b5
  have Bel := below_then Bel b5
  go_wp2_with fail
  refine (schemadecode_any _ _ _ _ _ _ _ fs bl hrr h1 hl hb _ _ HDV.out HDC.out).mono ?_
  rintro e w6 ⟨pa, pn, pc, rfl, p, b6⟩
  have hl := hl.mono b6
  have hv := hv.mono b6
  have hb := hb.mono b6
  have x := x.mono b6
  have y := y.mono b6
  have Bel := below_then Bel b6
  go_wp2_with fail
  refine (refdecode_any _ _ _ _ _ _ _ fs bl hrr h1 hl hb _ _ HDV.out HDC.out).mono ?_
  rintro e w7 ⟨qa, qn, qc, rfl, q, b7⟩
  have hl := hl.mono b7
  have hv := hv.mono b7
  have hb := hb.mono b7
  have x := x.mono b7
  have y := y.mono b7
  have p := p.mono b7
  have Bel := below_then Bel b7
  obtain ⟨bk, off, rfl, hbk, hcl⟩ := hl.at_.resolve_left (by omega)
  obtain ⟨c1, c2⟩ := hcl 0 (by omega)
  have hrf := hrr _ (getD_mem (fs := fs) (i := 0) (by rw [hl.len_eq]; omega))
  rw [show off + 0 * 2 = off from by omega] at c1 c2
  have hl7 := hl
  generalize fs.getD 0 (0, 0) = f at *
  obtain ⟨lo, hi⟩ := f
  simp only at c1 c2
  obtain ⟨Wd, hWd⟩ : ∃ Wd, wideF (lo, hi) = Wd := ⟨_, rfl⟩
  obtain ⟨Bi, hBi⟩ : ∃ Bi, bitsF fs = Bi := ⟨_, rfl⟩
  obtain ⟨By, hBy⟩ : ∃ By, bytesF fs = By := ⟨_, rfl⟩
  have k1 : ∀ z : Later w7.heap.size w7, Calls Try.prog 16 #[.agg #[.int .i64 lo, .int .i64 hi]] z.w fun e w' => e = .returned (.int .i64 (Wd : Int)) ∧ Below z.w.heap.size z.w w' := fun z => by rw [← hWd]; exact schemawide_any _ lo hi hrf
  have k2 : ∀ z : Later w7.heap.size w7, Calls Try.prog 17 #[.agg #[.int .i64 lo, .int .i64 hi]] z.w fun e w' => e = .returned (.int .i64 (Wd : Int)) ∧ Below z.w.heap.size z.w w' := fun z => by rw [← hWd]; exact schemarefwide_any _ lo hi hrf
  have k3 : ∀ z : Later w7.heap.size w7, Calls Try.prog 18 #[.slice (some ⟨bk, off, none⟩) len cap] z.w fun e w' => e = .returned (.int .i64 (Bi : Int)) ∧ Below z.w.heap.size z.w w' := fun z => by rw [← hBi]; exact schemabits_any _ _ _ _ fs hrr h1 (hl7.mono z.below)
  have k4 : ∀ z : Later w7.heap.size w7, Calls Try.prog 19 #[.slice (some ⟨bk, off, none⟩) len cap] z.w fun e w' => e = .returned (.int .i64 (Bi : Int)) ∧ Below z.w.heap.size z.w w' := fun z => by rw [← hBi]; exact refbits_any _ _ _ _ fs hrr h1 (hl7.mono z.below)
  have k5 : ∀ z : Later w7.heap.size w7, Calls Try.prog 20 #[.slice (some ⟨bk, off, none⟩) len cap] z.w fun e w' => e = .returned (.int .i64 (By : Int)) ∧ Below z.w.heap.size z.w w' := fun z => by rw [← hBy]; exact schemabytes_any _ _ _ _ fs hrr h1 (hl7.mono z.below)
  have k6 : ∀ z : Later w7.heap.size w7, Calls Try.prog 21 #[.slice (some ⟨bk, off, none⟩) len cap] z.w fun e w' => e = .returned (.int .i64 (By : Int)) ∧ Below z.w.heap.size z.w w' := fun z => by rw [← hBy]; exact refbytes_any _ _ _ _ fs hrr h1 (hl7.mono z.below)
  have k7 : ∀ z : Later w7.heap.size w7, Calls Try.prog 22 #[.slice (some ⟨bk, off, none⟩) len cap, .slice b len' cap'] z.w fun e w' => e = .returned (.int .i64 c) ∧ Below z.w.heap.size z.w w' := fun z => by have h := schemain_any z.w (some ⟨bk, off, none⟩) len cap b len' cap' fs vs (by omega) (hl7.mono z.below) (hv.mono z.below); rw [HC.out] at h; exact h
  have k8 : ∀ z : Later w7.heap.size w7, Calls Try.prog 23 #[.slice (some ⟨bk, off, none⟩) len cap, .slice b len' cap'] z.w fun e w' => e = .returned (.int .i64 c) ∧ Below z.w.heap.size z.w w' := fun z => by have h := refin_any z.w (some ⟨bk, off, none⟩) len cap b len' cap' fs vs (by omega) (hl7.mono z.below) (hv.mono z.below); rw [HC.out] at h; exact h
  have k9 : ∀ z : Later w7.heap.size w7, Calls Try.prog 24 #[.slice pa pn pc, .slice qa qn qc] z.w fun e w' => e = .returned (.bool true) ∧ Below z.w.heap.size z.w w' := fun z => by have h := vec_any z.w pa pn pc qa qn qc dv dv (p.mono z.below) (q.mono z.below); rw [show decide (dv = dv) = true from by simp] at h; exact h
  have v1 : ∀ z : Later w7.heap.size w7, (convert 24 9 (.slice xa xn xc)).run Try.prog z.w = .ok (.string (strOfNums (bs.map fun (c : Nat) => (c : Int)))) z.w := fun z => str_eq (x.mono z.below) _ rfl
  have v2 : ∀ z : Later w7.heap.size w7, (convert 24 9 (.slice ya yn yc)).run Try.prog z.w = .ok (.string (strOfNums (bs.map fun (c : Nat) => (c : Int)))) z.w := fun z => str_eq (y.mono z.below) _ rfl
  have m1 : ∀ z : Later w7.heap.size w7, z.w.cell? ⟨bk, off, none⟩ = some (.int .i64 lo) := fun z => (z.cell bk off hbk).trans c1
  have m2 : ∀ z : Later w7.heap.size w7, z.w.cell? ⟨bk, off + 1, none⟩ = some (.int .i64 hi) := fun z => (z.cell bk (off + 1) hbk).trans c2
  have n0 : (0 : Int) < (len : Int) := by omega
  clear hWd hBi hBy hcl hl hl7 hv hb x y p q c1 c2
  go_wp2
  refine wp_region_later w7.heap.size w7 (by kernel_rfl) (by kernel_rfl) (Below.refl _ _) ?_
  repeat (go_big_quiet_step ((first | exact Calls.later0 (k1 _) | exact Calls.later0 (k2 _) | exact Calls.later0 (k3 _) | exact Calls.later0 (k4 _) | exact Calls.later0 (k5 _) | exact Calls.later0 (k6 _) | exact Calls.later0 (k7 _) | exact Calls.later0 (k8 _) | exact Calls.later0 (k9 _))))
  refine wpQuiet_nil ?_
  intro _ hx
  obtain ⟨z, rfl⟩ := hx
  go_wp2
  go_ret
  exact ⟨rfl, below_then Bel z.below⟩
theorem schematells_any (w : World) (a : Option Addr) (len cap : Nat) (b : Option Addr) (len' cap' : Nat) (d : Option Addr) (lb cb : Nat) (fs : List (Int × Int)) (vs : List Int) (bl : List Nat) (hl : FieldsAt w a len fs) (hv : IntsAt w b len' vs) (hb : BytesAt w d lb cb bl) :
    Calls Try.prog 3 #[.slice a len cap, .slice b len' cap', .slice d lb cb] w fun e w' => e = .returned (.bool true) ∧ Below w.heap.size w w' := by
  by_cases h1 : len ≤ 40
  case neg => exact stells_g1 w a len cap b len' cap' d lb cb fs vs bl hl hv hb (by omega)
  by_cases h2 : len' ≤ 40
  case neg => exact stells_g2 w a len cap b len' cap' d lb cb fs vs bl hl hv hb h1 (by omega)
  by_cases h3 : lb ≤ 100
  case neg => exact stells_g3 w a len cap b len' cap' d lb cb fs vs bl hl hv hb h1 h2 (by omega)
  by_cases hr : RightS2 fs
  · exact stells_yes w a len cap b len' cap' d lb cb fs vs bl hl hv hb h1 h2 h3 hr
  · exact stells_no w a len cap b len' cap' d lb cb fs vs bl hl hv hb h1 h2 h3 hr
end Go.Proofs.Ytblipgmllpniaaa
