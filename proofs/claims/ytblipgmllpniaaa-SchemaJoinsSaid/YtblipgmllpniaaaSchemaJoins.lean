/- SchemaJoins returns true. -/
import Derived.Test.YtblipgmllpniaaaSchema16
namespace Go.Proofs.Ytblipgmllpniaaa
open Go.RowKit
set_option linter.unusedVariables false

set_option maxRecDepth 100000 in
theorem joins_g0 (w : World) (a : Option Addr) (ls cs : Nat) (b : Option Addr) (lt ct : Nat) (c : Option Addr) (lv cv : Nat) (d : Option Addr) (lu cu : Nat) (fs gs : List (Int × Int)) (vs us : List Int) (hs : FieldsAt w a ls fs) (ht : FieldsAt w b lt gs) (hv : IntsAt w c lv vs) (hu : IntsAt w d lu us) (ns : a = none → ls = 0 ∧ cs = 0) (nt : b = none → lt = 0 ∧ ct = 0) (nv : c = none → lv = 0 ∧ cv = 0) (nu : d = none → lu = 0 ∧ cu = 0) (h1 : 10 < ls) :
    Calls Try.prog 8 #[.agg #[.slice a ls cs, .slice b lt ct, .slice c lv cv, .slice d lu cu]] w fun e w' => e = .returned (.bool true) ∧ Below w.heap.size w w' := by
  have hm1 := hs.small
  have hm2 := ht.small
  have hm3 := hv.small
  have hm4 := hu.small
  have g1 : decide ((10 : Int) < (ls : Int)) = true := by simp; omega
  have g1' : decide (10 < ls) = true := by simp; omega
  go_enter Try.func8, Try.ntmps8
  go_wp2_with fail
  replace hs := hs.mono (below_alloc _ (.cells #[.slice a ls cs, .slice b lt ct, .slice c lv cv, .slice d lu cu] 51))
  replace ht := ht.mono (below_alloc _ (.cells #[.slice a ls cs, .slice b lt ct, .slice c lv cv, .slice d lu cu] 51))
  replace hv := hv.mono (below_alloc _ (.cells #[.slice a ls cs, .slice b lt ct, .slice c lv cv, .slice d lu cu] 51))
  replace hu := hu.mono (below_alloc _ (.cells #[.slice a ls cs, .slice b lt ct, .slice c lv cv, .slice d lu cu] 51))
  have Bel := below_alloc w (.cells #[.slice a ls cs, .slice b lt ct, .slice c lv cv, .slice d lu cu] 51)
  refine (shown_any _).mono ?_
  rintro e w1 ⟨rfl, b1⟩
  replace hs := hs.mono b1
  replace ht := ht.mono b1
  replace hv := hv.mono b1
  replace hu := hu.mono b1
  replace Bel := below_then Bel b1
  go_wp2
  go_ret
  exact ⟨rfl, Bel⟩
set_option maxRecDepth 100000 in
theorem joins_g1 (w : World) (a : Option Addr) (ls cs : Nat) (b : Option Addr) (lt ct : Nat) (c : Option Addr) (lv cv : Nat) (d : Option Addr) (lu cu : Nat) (fs gs : List (Int × Int)) (vs us : List Int) (hs : FieldsAt w a ls fs) (ht : FieldsAt w b lt gs) (hv : IntsAt w c lv vs) (hu : IntsAt w d lu us) (ns : a = none → ls = 0 ∧ cs = 0) (nt : b = none → lt = 0 ∧ ct = 0) (nv : c = none → lv = 0 ∧ cv = 0) (nu : d = none → lu = 0 ∧ cu = 0) (h1 : ls ≤ 10) (h2 : 7 < lt) :
    Calls Try.prog 8 #[.agg #[.slice a ls cs, .slice b lt ct, .slice c lv cv, .slice d lu cu]] w fun e w' => e = .returned (.bool true) ∧ Below w.heap.size w w' := by
  have hm1 := hs.small
  have hm2 := ht.small
  have hm3 := hv.small
  have hm4 := hu.small
  have g1 : decide ((10 : Int) < (ls : Int)) = false := by simp; omega
  have g1' : decide (10 < ls) = false := by simp; omega
  have g2 : decide ((7 : Int) < (lt : Int)) = true := by simp; omega
  have g2' : decide (7 < lt) = true := by simp; omega
  go_enter Try.func8, Try.ntmps8
  go_wp2_with fail
  replace hs := hs.mono (below_alloc _ (.cells #[.slice a ls cs, .slice b lt ct, .slice c lv cv, .slice d lu cu] 51))
  replace ht := ht.mono (below_alloc _ (.cells #[.slice a ls cs, .slice b lt ct, .slice c lv cv, .slice d lu cu] 51))
  replace hv := hv.mono (below_alloc _ (.cells #[.slice a ls cs, .slice b lt ct, .slice c lv cv, .slice d lu cu] 51))
  replace hu := hu.mono (below_alloc _ (.cells #[.slice a ls cs, .slice b lt ct, .slice c lv cv, .slice d lu cu] 51))
  have Bel := below_alloc w (.cells #[.slice a ls cs, .slice b lt ct, .slice c lv cv, .slice d lu cu] 51)
  refine (shown_any _).mono ?_
  rintro e w1 ⟨rfl, b1⟩
  replace hs := hs.mono b1
  replace ht := ht.mono b1
  replace hv := hv.mono b1
  replace hu := hu.mono b1
  replace Bel := below_then Bel b1
  go_wp2
  go_ret
  exact ⟨rfl, Bel⟩
set_option maxRecDepth 100000 in
theorem joins_g2 (w : World) (a : Option Addr) (ls cs : Nat) (b : Option Addr) (lt ct : Nat) (c : Option Addr) (lv cv : Nat) (d : Option Addr) (lu cu : Nat) (fs gs : List (Int × Int)) (vs us : List Int) (hs : FieldsAt w a ls fs) (ht : FieldsAt w b lt gs) (hv : IntsAt w c lv vs) (hu : IntsAt w d lu us) (ns : a = none → ls = 0 ∧ cs = 0) (nt : b = none → lt = 0 ∧ ct = 0) (nv : c = none → lv = 0 ∧ cv = 0) (nu : d = none → lu = 0 ∧ cu = 0) (h1 : ls ≤ 10) (h2 : lt ≤ 7) (h3 : ¬ RightS2 fs) :
    Calls Try.prog 8 #[.agg #[.slice a ls cs, .slice b lt ct, .slice c lv cv, .slice d lu cu]] w fun e w' => e = .returned (.bool true) ∧ Below w.heap.size w w' := by
  have hm1 := hs.small
  have hm2 := ht.small
  have hm3 := hv.small
  have hm4 := hu.small
  have g1 : decide ((10 : Int) < (ls : Int)) = false := by simp; omega
  have g1' : decide (10 < ls) = false := by simp; omega
  have g2 : decide ((7 : Int) < (lt : Int)) = false := by simp; omega
  have g2' : decide (7 < lt) = false := by simp; omega
  have HRhs := Lib.hid (show decide (RightS2 fs) = false by simpa using h3)
  go_enter Try.func8, Try.ntmps8
  go_wp2_with fail
  replace hs := hs.mono (below_alloc _ (.cells #[.slice a ls cs, .slice b lt ct, .slice c lv cv, .slice d lu cu] 51))
  replace ht := ht.mono (below_alloc _ (.cells #[.slice a ls cs, .slice b lt ct, .slice c lv cv, .slice d lu cu] 51))
  replace hv := hv.mono (below_alloc _ (.cells #[.slice a ls cs, .slice b lt ct, .slice c lv cv, .slice d lu cu] 51))
  replace hu := hu.mono (below_alloc _ (.cells #[.slice a ls cs, .slice b lt ct, .slice c lv cv, .slice d lu cu] 51))
  have Bel := below_alloc w (.cells #[.slice a ls cs, .slice b lt ct, .slice c lv cv, .slice d lu cu] 51)
  refine (shown_any _).mono ?_
  rintro e w1 ⟨rfl, b1⟩
  replace hs := hs.mono b1
  replace ht := ht.mono b1
  replace hv := hv.mono b1
  replace hu := hu.mono b1
  replace Bel := below_then Bel b1
  go_wp2_with fail
  refine (refright2_any _ _ _ _ fs hs).mono ?_
  rintro e r2 ⟨rfl, rb2⟩
  replace hs := hs.mono rb2
  replace ht := ht.mono rb2
  replace hv := hv.mono rb2
  replace hu := hu.mono rb2
  replace Bel := below_then Bel rb2
  rw [HRhs.out]
  go_wp2
  go_ret
  exact ⟨rfl, Bel⟩
set_option maxRecDepth 100000 in
theorem joins_g3 (w : World) (a : Option Addr) (ls cs : Nat) (b : Option Addr) (lt ct : Nat) (c : Option Addr) (lv cv : Nat) (d : Option Addr) (lu cu : Nat) (fs gs : List (Int × Int)) (vs us : List Int) (hs : FieldsAt w a ls fs) (ht : FieldsAt w b lt gs) (hv : IntsAt w c lv vs) (hu : IntsAt w d lu us) (ns : a = none → ls = 0 ∧ cs = 0) (nt : b = none → lt = 0 ∧ ct = 0) (nv : c = none → lv = 0 ∧ cv = 0) (nu : d = none → lu = 0 ∧ cu = 0) (h1 : ls ≤ 10) (h2 : lt ≤ 7) (h3 : RightS2 fs) (h4 : ¬ RightS2 gs) :
    Calls Try.prog 8 #[.agg #[.slice a ls cs, .slice b lt ct, .slice c lv cv, .slice d lu cu]] w fun e w' => e = .returned (.bool true) ∧ Below w.heap.size w w' := by
  have hm1 := hs.small
  have hm2 := ht.small
  have hm3 := hv.small
  have hm4 := hu.small
  have g1 : decide ((10 : Int) < (ls : Int)) = false := by simp; omega
  have g1' : decide (10 < ls) = false := by simp; omega
  have g2 : decide ((7 : Int) < (lt : Int)) = false := by simp; omega
  have g2' : decide (7 < lt) = false := by simp; omega
  have HRhs := Lib.hid (show decide (RightS2 fs) = true by simpa using h3)
  have HRht := Lib.hid (show decide (RightS2 gs) = false by simpa using h4)
  go_enter Try.func8, Try.ntmps8
  go_wp2_with fail
  replace hs := hs.mono (below_alloc _ (.cells #[.slice a ls cs, .slice b lt ct, .slice c lv cv, .slice d lu cu] 51))
  replace ht := ht.mono (below_alloc _ (.cells #[.slice a ls cs, .slice b lt ct, .slice c lv cv, .slice d lu cu] 51))
  replace hv := hv.mono (below_alloc _ (.cells #[.slice a ls cs, .slice b lt ct, .slice c lv cv, .slice d lu cu] 51))
  replace hu := hu.mono (below_alloc _ (.cells #[.slice a ls cs, .slice b lt ct, .slice c lv cv, .slice d lu cu] 51))
  have Bel := below_alloc w (.cells #[.slice a ls cs, .slice b lt ct, .slice c lv cv, .slice d lu cu] 51)
  refine (shown_any _).mono ?_
  rintro e w1 ⟨rfl, b1⟩
  replace hs := hs.mono b1
  replace ht := ht.mono b1
  replace hv := hv.mono b1
  replace hu := hu.mono b1
  replace Bel := below_then Bel b1
  go_wp2_with fail
  refine (refright2_any _ _ _ _ fs hs).mono ?_
  rintro e r2 ⟨rfl, rb2⟩
  replace hs := hs.mono rb2
  replace ht := ht.mono rb2
  replace hv := hv.mono rb2
  replace hu := hu.mono rb2
  replace Bel := below_then Bel rb2
  rw [HRhs.out]
  go_wp2_with fail
  refine (refright2_any _ _ _ _ gs ht).mono ?_
  rintro e r3 ⟨rfl, rb3⟩
  replace hs := hs.mono rb3
  replace ht := ht.mono rb3
  replace hv := hv.mono rb3
  replace hu := hu.mono rb3
  replace Bel := below_then Bel rb3
  rw [HRht.out]
  go_wp2
  go_ret
  exact ⟨rfl, Bel⟩
set_option maxRecDepth 100000 in
theorem joins_g4 (w : World) (a : Option Addr) (ls cs : Nat) (b : Option Addr) (lt ct : Nat) (c : Option Addr) (lv cv : Nat) (d : Option Addr) (lu cu : Nat) (fs gs : List (Int × Int)) (vs us : List Int) (hs : FieldsAt w a ls fs) (ht : FieldsAt w b lt gs) (hv : IntsAt w c lv vs) (hu : IntsAt w d lu us) (ns : a = none → ls = 0 ∧ cs = 0) (nt : b = none → lt = 0 ∧ ct = 0) (nv : c = none → lv = 0 ∧ cv = 0) (nu : d = none → lu = 0 ∧ cu = 0) (h1 : ls ≤ 10) (h2 : lt ≤ 7) (h3 : RightS2 fs) (h4 : RightS2 gs) (h5 : 40 < lv) :
    Calls Try.prog 8 #[.agg #[.slice a ls cs, .slice b lt ct, .slice c lv cv, .slice d lu cu]] w fun e w' => e = .returned (.bool true) ∧ Below w.heap.size w w' := by
  have hm1 := hs.small
  have hm2 := ht.small
  have hm3 := hv.small
  have hm4 := hu.small
  have g1 : decide ((10 : Int) < (ls : Int)) = false := by simp; omega
  have g1' : decide (10 < ls) = false := by simp; omega
  have g2 : decide ((7 : Int) < (lt : Int)) = false := by simp; omega
  have g2' : decide (7 < lt) = false := by simp; omega
  have HRhs := Lib.hid (show decide (RightS2 fs) = true by simpa using h3)
  have HRht := Lib.hid (show decide (RightS2 gs) = true by simpa using h4)
  have g5 : decide ((40 : Int) < (lv : Int)) = true := by simp; omega
  have g5' : decide (40 < lv) = true := by simp; omega
  go_enter Try.func8, Try.ntmps8
  go_wp2_with fail
  replace hs := hs.mono (below_alloc _ (.cells #[.slice a ls cs, .slice b lt ct, .slice c lv cv, .slice d lu cu] 51))
  replace ht := ht.mono (below_alloc _ (.cells #[.slice a ls cs, .slice b lt ct, .slice c lv cv, .slice d lu cu] 51))
  replace hv := hv.mono (below_alloc _ (.cells #[.slice a ls cs, .slice b lt ct, .slice c lv cv, .slice d lu cu] 51))
  replace hu := hu.mono (below_alloc _ (.cells #[.slice a ls cs, .slice b lt ct, .slice c lv cv, .slice d lu cu] 51))
  have Bel := below_alloc w (.cells #[.slice a ls cs, .slice b lt ct, .slice c lv cv, .slice d lu cu] 51)
  refine (shown_any _).mono ?_
  rintro e w1 ⟨rfl, b1⟩
  replace hs := hs.mono b1
  replace ht := ht.mono b1
  replace hv := hv.mono b1
  replace hu := hu.mono b1
  replace Bel := below_then Bel b1
  go_wp2_with fail
  refine (refright2_any _ _ _ _ fs hs).mono ?_
  rintro e r2 ⟨rfl, rb2⟩
  replace hs := hs.mono rb2
  replace ht := ht.mono rb2
  replace hv := hv.mono rb2
  replace hu := hu.mono rb2
  replace Bel := below_then Bel rb2
  rw [HRhs.out]
  go_wp2_with fail
  refine (refright2_any _ _ _ _ gs ht).mono ?_
  rintro e r3 ⟨rfl, rb3⟩
  replace hs := hs.mono rb3
  replace ht := ht.mono rb3
  replace hv := hv.mono rb3
  replace hu := hu.mono rb3
  replace Bel := below_then Bel rb3
  rw [HRht.out]
  go_wp2
  go_ret
  exact ⟨rfl, Bel⟩
set_option maxRecDepth 100000 in
theorem joins_g5 (w : World) (a : Option Addr) (ls cs : Nat) (b : Option Addr) (lt ct : Nat) (c : Option Addr) (lv cv : Nat) (d : Option Addr) (lu cu : Nat) (fs gs : List (Int × Int)) (vs us : List Int) (hs : FieldsAt w a ls fs) (ht : FieldsAt w b lt gs) (hv : IntsAt w c lv vs) (hu : IntsAt w d lu us) (ns : a = none → ls = 0 ∧ cs = 0) (nt : b = none → lt = 0 ∧ ct = 0) (nv : c = none → lv = 0 ∧ cv = 0) (nu : d = none → lu = 0 ∧ cu = 0) (h1 : ls ≤ 10) (h2 : lt ≤ 7) (h3 : RightS2 fs) (h4 : RightS2 gs) (h5 : lv ≤ 40) (h6 : 40 < lu) :
    Calls Try.prog 8 #[.agg #[.slice a ls cs, .slice b lt ct, .slice c lv cv, .slice d lu cu]] w fun e w' => e = .returned (.bool true) ∧ Below w.heap.size w w' := by
  have hm1 := hs.small
  have hm2 := ht.small
  have hm3 := hv.small
  have hm4 := hu.small
  have g1 : decide ((10 : Int) < (ls : Int)) = false := by simp; omega
  have g1' : decide (10 < ls) = false := by simp; omega
  have g2 : decide ((7 : Int) < (lt : Int)) = false := by simp; omega
  have g2' : decide (7 < lt) = false := by simp; omega
  have HRhs := Lib.hid (show decide (RightS2 fs) = true by simpa using h3)
  have HRht := Lib.hid (show decide (RightS2 gs) = true by simpa using h4)
  have g5 : decide ((40 : Int) < (lv : Int)) = false := by simp; omega
  have g5' : decide (40 < lv) = false := by simp; omega
  have g6 : decide ((40 : Int) < (lu : Int)) = true := by simp; omega
  have g6' : decide (40 < lu) = true := by simp; omega
  go_enter Try.func8, Try.ntmps8
  go_wp2_with fail
  replace hs := hs.mono (below_alloc _ (.cells #[.slice a ls cs, .slice b lt ct, .slice c lv cv, .slice d lu cu] 51))
  replace ht := ht.mono (below_alloc _ (.cells #[.slice a ls cs, .slice b lt ct, .slice c lv cv, .slice d lu cu] 51))
  replace hv := hv.mono (below_alloc _ (.cells #[.slice a ls cs, .slice b lt ct, .slice c lv cv, .slice d lu cu] 51))
  replace hu := hu.mono (below_alloc _ (.cells #[.slice a ls cs, .slice b lt ct, .slice c lv cv, .slice d lu cu] 51))
  have Bel := below_alloc w (.cells #[.slice a ls cs, .slice b lt ct, .slice c lv cv, .slice d lu cu] 51)
  refine (shown_any _).mono ?_
  rintro e w1 ⟨rfl, b1⟩
  replace hs := hs.mono b1
  replace ht := ht.mono b1
  replace hv := hv.mono b1
  replace hu := hu.mono b1
  replace Bel := below_then Bel b1
  go_wp2_with fail
  refine (refright2_any _ _ _ _ fs hs).mono ?_
  rintro e r2 ⟨rfl, rb2⟩
  replace hs := hs.mono rb2
  replace ht := ht.mono rb2
  replace hv := hv.mono rb2
  replace hu := hu.mono rb2
  replace Bel := below_then Bel rb2
  rw [HRhs.out]
  go_wp2_with fail
  refine (refright2_any _ _ _ _ gs ht).mono ?_
  rintro e r3 ⟨rfl, rb3⟩
  replace hs := hs.mono rb3
  replace ht := ht.mono rb3
  replace hv := hv.mono rb3
  replace hu := hu.mono rb3
  replace Bel := below_then Bel rb3
  rw [HRht.out]
  go_wp2
  go_ret
  exact ⟨rfl, Bel⟩
set_option maxRecDepth 100000 in
set_option maxHeartbeats 1000000 in
theorem joins_n1 (w : World) (a : Option Addr) (ls cs : Nat) (b : Option Addr) (lt ct : Nat) (c : Option Addr) (lv cv : Nat) (d : Option Addr) (lu cu : Nat) (fs gs : List (Int × Int)) (vs us : List Int) (hs : FieldsAt w a ls fs) (ht : FieldsAt w b lt gs) (hv : IntsAt w c lv vs) (hu : IntsAt w d lu us) (ns : a = none → ls = 0 ∧ cs = 0) (nt : b = none → lt = 0 ∧ ct = 0) (nv : c = none → lv = 0 ∧ cv = 0) (nu : d = none → lu = 0 ∧ cu = 0) (h1 : ls ≤ 10) (h2 : lt ≤ 7) (h3 : RightS2 fs) (h4 : RightS2 gs) (h5 : lv ≤ 40) (h6 : lu ≤ 40) (e : Int) (hcs : inS fs vs = e) (h0 : e ≠ 0) (f : Int) (hct : inS gs us = f) :
    Calls Try.prog 8 #[.agg #[.slice a ls cs, .slice b lt ct, .slice c lv cv, .slice d lu cu]] w fun e w' => e = .returned (.bool true) ∧ Below w.heap.size w w' := by
  have hm1 := hs.small
  have hm2 := ht.small
  have hm3 := hv.small
  have hm4 := hu.small
  have g1 : decide ((10 : Int) < (ls : Int)) = false := by simp; omega
  have g1' : decide (10 < ls) = false := by simp; omega
  have g2 : decide ((7 : Int) < (lt : Int)) = false := by simp; omega
  have g2' : decide (7 < lt) = false := by simp; omega
  have HRhs := Lib.hid (show decide (RightS2 fs) = true by simpa using h3)
  have HRht := Lib.hid (show decide (RightS2 gs) = true by simpa using h4)
  have g5 : decide ((40 : Int) < (lv : Int)) = false := by simp; omega
  have g5' : decide (40 < lv) = false := by simp; omega
  have g6 : decide ((40 : Int) < (lu : Int)) = false := by simp; omega
  have g6' : decide (40 < lu) = false := by simp; omega
  have hrs := h3.2.2
  have hrt := h4.2.2
  obtain ⟨xS, hxS⟩ : ∃ x, (if e = 0 then encS fs vs else []) = x := ⟨_, rfl⟩
  have HES := Lib.hid hxS
  clear hxS
  obtain ⟨xT, hxT⟩ : ∃ x, (if f = 0 then encS gs us else []) = x := ⟨_, rfl⟩
  have HET := Lib.hid hxT
  clear hxT
  have HCS := Lib.hid hcs
  have HCT := Lib.hid hct
  have hrb : ∀ f ∈ fs ++ gs, RightF f := fun f hf => (List.mem_append.1 hf).elim (hrs f) (hrt f)
  have hRB : RightS2 (fs ++ gs) := ⟨by rw [List.length_append]; have := h3.1; omega, by rw [List.length_append, hs.len_eq, ht.len_eq]; omega, hrb⟩
  have HRB := Lib.hid (show decide (RightS2 (fs ++ gs)) = true by simpa using hRB)
  have hwb : ∀ f ∈ fs ++ gs, (-9223372036854775808 ≤ f.1 ∧ f.1 ≤ 9223372036854775807) ∧ (-9223372036854775808 ≤ f.2 ∧ f.2 ≤ 9223372036854775807) := fun f hf => (List.mem_append.1 hf).elim (hs.wf f) (ht.wf f)
  have HWB := Lib.hid hwb
  have lsf := Lib.hid hs.len_eq
  have ltf := Lib.hid ht.len_eq
  have lvf := Lib.hid hv.len_eq
  have luf := Lib.hid hu.len_eq
  have e0 : (e != 0) = true := by simpa using h0
  clear hcs hct h3 h4 hwb
  go_enter Try.func8, Try.ntmps8
  go_wp2_with fail
  replace hs := hs.mono (below_alloc _ (.cells #[.slice a ls cs, .slice b lt ct, .slice c lv cv, .slice d lu cu] 51))
  replace ht := ht.mono (below_alloc _ (.cells #[.slice a ls cs, .slice b lt ct, .slice c lv cv, .slice d lu cu] 51))
  replace hv := hv.mono (below_alloc _ (.cells #[.slice a ls cs, .slice b lt ct, .slice c lv cv, .slice d lu cu] 51))
  replace hu := hu.mono (below_alloc _ (.cells #[.slice a ls cs, .slice b lt ct, .slice c lv cv, .slice d lu cu] 51))
  have Bel := below_alloc w (.cells #[.slice a ls cs, .slice b lt ct, .slice c lv cv, .slice d lu cu] 51)
  refine (shown_any _).mono ?_
  rintro e w1 ⟨rfl, b1⟩
  replace hs := hs.mono b1
  replace ht := ht.mono b1
  replace hv := hv.mono b1
  replace hu := hu.mono b1
  replace Bel := below_then Bel b1
  go_wp2_with fail
  refine (refright2_any _ _ _ _ fs hs).mono ?_
  rintro e r2 ⟨rfl, rb2⟩
  replace hs := hs.mono rb2
  replace ht := ht.mono rb2
  replace hv := hv.mono rb2
  replace hu := hu.mono rb2
  replace Bel := below_then Bel rb2
  rw [HRhs.out]
  go_wp2_with fail
  refine (refright2_any _ _ _ _ gs ht).mono ?_
  rintro e r3 ⟨rfl, rb3⟩
  replace hs := hs.mono rb3
  replace ht := ht.mono rb3
  replace hv := hv.mono rb3
  replace hu := hu.mono rb3
  replace Bel := below_then Bel rb3
  rw [HRht.out]
  go_wp2_with fail
  refine (schemaencode_any _ _ _ _ _ _ _ fs vs hrs (by omega) hs hv _ e HCS.out HES.out).mono ?_
  rintro e w3 ⟨xa, xn, xc, rfl, x, b3⟩
  replace hs := hs.mono b3
  replace ht := ht.mono b3
  replace hv := hv.mono b3
  replace hu := hu.mono b3
  replace Bel := below_then Bel b3
  go_wp2_with fail
  refine (schemaencode_any _ _ _ _ _ _ _ gs us hrt (by omega) ht hu _ f HCT.out HET.out).mono ?_
  rintro e w4 ⟨ya, yn, yc, rfl, y, b4⟩
  replace hs := hs.mono b4
  replace ht := ht.mono b4
  replace hv := hv.mono b4
  replace hu := hu.mono b4
  replace x := x.mono b4
  replace Bel := below_then Bel b4
  go_wp2_with (first | (at_builtin; refine append_sz rfl (.tmp 72) (.tmp 73) 22 rfl w4.heap.size 38 (.agg #[.int .i64 0, .int .i64 0]) 2 16 Try.underlying22 Try.info_field rfl (by omega) _ 0 [] rfl ?_ a ls cs (fieldCells fs) rfl ?_ ?_ ?_ ?_ ?_ ?_ ?_ ?_; exact (World.ownsRow_made w4 #[] 0 (Nat.le_refl _) (by unfold maxLen; omega) rfl); exact ns; exact (by rw [fieldCells_length]; exact by rw [lsf.out]); exact (fun ad ha j u hj => cellAlloc w4 _ (hs.news ad ha j u hj)); exact fieldCells_one _; (unfold maxLen; omega); omega; (first | omega | (simp; try omega)); intro v5 w5 own5 bel5; simp only [Nat.zero_add, List.nil_append] at own5; have O5 := Lib.hid own5; have c5 := (below_alloc w4 (.cells #[] 38)).trans bel5; have ht5 := ht.mono c5; have z5 := bel5.size; simp at z5; clear own5) | (at_builtin; refine append_sz rfl (.tmp 74) (.tmp 75) 22 rfl w4.heap.size 38 (.agg #[.int .i64 0, .int .i64 0]) 2 16 Try.underlying22 Try.info_field rfl (by omega) _ ls (fieldCells fs) rfl ?_ b lt ct (fieldCells gs) rfl ?_ ?_ ?_ ?_ ?_ ?_ ?_ ?_; exact O5.out; exact nt; exact (by rw [fieldCells_length]; exact by rw [ltf.out]); exact ht5.news; exact fieldCells_one _; (unfold maxLen; omega); omega; (first | omega | (simp; try omega)); intro v6 w6 own6 bel6; have O6 := Lib.hid own6; have c6 := c5.trans bel6; clear own6))
  have own6 := O6.out
  rw [fieldCells_append] at own6
  obtain ⟨pb, qb, hpb, both⟩ := ownFields own6 (by omega) HWB.out
  rw [hpb]
  replace hs := hs.mono c6
  replace ht := ht.mono c6
  replace hv := hv.mono c6
  replace hu := hu.mono c6
  replace x := x.mono c6
  replace y := y.mono c6
  replace Bel := below_then Bel c6
  have HB := Lib.hid both
  have both := HB.out
  clear O6 O5 own6 HB
  refine (refright2_any _ _ _ _ (fs ++ gs) both).mono ?_
  rintro e w7 ⟨rfl, b7⟩
  replace hs := hs.mono b7
  replace ht := ht.mono b7
  replace hv := hv.mono b7
  replace hu := hu.mono b7
  replace x := x.mono b7
  replace y := y.mono b7
  replace both := both.mono b7
  replace Bel := below_then Bel b7
  rw [HRB.out]
  go_wp2
  go_ret
  exact ⟨rfl, Bel⟩
set_option maxRecDepth 100000 in
set_option maxHeartbeats 1000000 in
theorem joins_n2 (w : World) (a : Option Addr) (ls cs : Nat) (b : Option Addr) (lt ct : Nat) (c : Option Addr) (lv cv : Nat) (d : Option Addr) (lu cu : Nat) (fs gs : List (Int × Int)) (vs us : List Int) (hs : FieldsAt w a ls fs) (ht : FieldsAt w b lt gs) (hv : IntsAt w c lv vs) (hu : IntsAt w d lu us) (ns : a = none → ls = 0 ∧ cs = 0) (nt : b = none → lt = 0 ∧ ct = 0) (nv : c = none → lv = 0 ∧ cv = 0) (nu : d = none → lu = 0 ∧ cu = 0) (h1 : ls ≤ 10) (h2 : lt ≤ 7) (h3 : RightS2 fs) (h4 : RightS2 gs) (h5 : lv ≤ 40) (h6 : lu ≤ 40) (hcs : inS fs vs = 0) (f : Int) (hct : inS gs us = f) (h0 : f ≠ 0) :
    Calls Try.prog 8 #[.agg #[.slice a ls cs, .slice b lt ct, .slice c lv cv, .slice d lu cu]] w fun e w' => e = .returned (.bool true) ∧ Below w.heap.size w w' := by
  have hm1 := hs.small
  have hm2 := ht.small
  have hm3 := hv.small
  have hm4 := hu.small
  have g1 : decide ((10 : Int) < (ls : Int)) = false := by simp; omega
  have g1' : decide (10 < ls) = false := by simp; omega
  have g2 : decide ((7 : Int) < (lt : Int)) = false := by simp; omega
  have g2' : decide (7 < lt) = false := by simp; omega
  have HRhs := Lib.hid (show decide (RightS2 fs) = true by simpa using h3)
  have HRht := Lib.hid (show decide (RightS2 gs) = true by simpa using h4)
  have g5 : decide ((40 : Int) < (lv : Int)) = false := by simp; omega
  have g5' : decide (40 < lv) = false := by simp; omega
  have g6 : decide ((40 : Int) < (lu : Int)) = false := by simp; omega
  have g6' : decide (40 < lu) = false := by simp; omega
  have hrs := h3.2.2
  have hrt := h4.2.2
  have HES := Lib.hid (show (if (0 : Int) = 0 then encS fs vs else []) = encS fs vs from rfl)
  obtain ⟨xT, hxT⟩ : ∃ x, (if f = 0 then encS gs us else []) = x := ⟨_, rfl⟩
  have HET := Lib.hid hxT
  clear hxT
  have HCS := Lib.hid hcs
  have HCT := Lib.hid hct
  have hrb : ∀ f ∈ fs ++ gs, RightF f := fun f hf => (List.mem_append.1 hf).elim (hrs f) (hrt f)
  have hRB : RightS2 (fs ++ gs) := ⟨by rw [List.length_append]; have := h3.1; omega, by rw [List.length_append, hs.len_eq, ht.len_eq]; omega, hrb⟩
  have HRB := Lib.hid (show decide (RightS2 (fs ++ gs)) = true by simpa using hRB)
  have hwb : ∀ f ∈ fs ++ gs, (-9223372036854775808 ≤ f.1 ∧ f.1 ≤ 9223372036854775807) ∧ (-9223372036854775808 ≤ f.2 ∧ f.2 ≤ 9223372036854775807) := fun f hf => (List.mem_append.1 hf).elim (hs.wf f) (ht.wf f)
  have HWB := Lib.hid hwb
  have lsf := Lib.hid hs.len_eq
  have ltf := Lib.hid ht.len_eq
  have lvf := Lib.hid hv.len_eq
  have luf := Lib.hid hu.len_eq
  have e0 : (f != 0) = true := by simpa using h0
  clear hcs hct h3 h4 hwb
  go_enter Try.func8, Try.ntmps8
  go_wp2_with fail
  replace hs := hs.mono (below_alloc _ (.cells #[.slice a ls cs, .slice b lt ct, .slice c lv cv, .slice d lu cu] 51))
  replace ht := ht.mono (below_alloc _ (.cells #[.slice a ls cs, .slice b lt ct, .slice c lv cv, .slice d lu cu] 51))
  replace hv := hv.mono (below_alloc _ (.cells #[.slice a ls cs, .slice b lt ct, .slice c lv cv, .slice d lu cu] 51))
  replace hu := hu.mono (below_alloc _ (.cells #[.slice a ls cs, .slice b lt ct, .slice c lv cv, .slice d lu cu] 51))
  have Bel := below_alloc w (.cells #[.slice a ls cs, .slice b lt ct, .slice c lv cv, .slice d lu cu] 51)
  refine (shown_any _).mono ?_
  rintro e w1 ⟨rfl, b1⟩
  replace hs := hs.mono b1
  replace ht := ht.mono b1
  replace hv := hv.mono b1
  replace hu := hu.mono b1
  replace Bel := below_then Bel b1
  go_wp2_with fail
  refine (refright2_any _ _ _ _ fs hs).mono ?_
  rintro e r2 ⟨rfl, rb2⟩
  replace hs := hs.mono rb2
  replace ht := ht.mono rb2
  replace hv := hv.mono rb2
  replace hu := hu.mono rb2
  replace Bel := below_then Bel rb2
  rw [HRhs.out]
  go_wp2_with fail
  refine (refright2_any _ _ _ _ gs ht).mono ?_
  rintro e r3 ⟨rfl, rb3⟩
  replace hs := hs.mono rb3
  replace ht := ht.mono rb3
  replace hv := hv.mono rb3
  replace hu := hu.mono rb3
  replace Bel := below_then Bel rb3
  rw [HRht.out]
  go_wp2_with fail
  refine (schemaencode_any _ _ _ _ _ _ _ fs vs hrs (by omega) hs hv _ 0 HCS.out HES.out).mono ?_
  rintro e w3 ⟨xa, xn, xc, rfl, x, b3⟩
  replace hs := hs.mono b3
  replace ht := ht.mono b3
  replace hv := hv.mono b3
  replace hu := hu.mono b3
  replace Bel := below_then Bel b3
  go_wp2_with fail
  refine (schemaencode_any _ _ _ _ _ _ _ gs us hrt (by omega) ht hu _ f HCT.out HET.out).mono ?_
  rintro e w4 ⟨ya, yn, yc, rfl, y, b4⟩
  replace hs := hs.mono b4
  replace ht := ht.mono b4
  replace hv := hv.mono b4
  replace hu := hu.mono b4
  replace x := x.mono b4
  replace Bel := below_then Bel b4
  go_wp2_with (first | (at_builtin; refine append_sz rfl (.tmp 72) (.tmp 73) 22 rfl w4.heap.size 38 (.agg #[.int .i64 0, .int .i64 0]) 2 16 Try.underlying22 Try.info_field rfl (by omega) _ 0 [] rfl ?_ a ls cs (fieldCells fs) rfl ?_ ?_ ?_ ?_ ?_ ?_ ?_ ?_; exact (World.ownsRow_made w4 #[] 0 (Nat.le_refl _) (by unfold maxLen; omega) rfl); exact ns; exact (by rw [fieldCells_length]; exact by rw [lsf.out]); exact (fun ad ha j u hj => cellAlloc w4 _ (hs.news ad ha j u hj)); exact fieldCells_one _; (unfold maxLen; omega); omega; (first | omega | (simp; try omega)); intro v5 w5 own5 bel5; simp only [Nat.zero_add, List.nil_append] at own5; have O5 := Lib.hid own5; have c5 := (below_alloc w4 (.cells #[] 38)).trans bel5; have ht5 := ht.mono c5; have z5 := bel5.size; simp at z5; clear own5) | (at_builtin; refine append_sz rfl (.tmp 74) (.tmp 75) 22 rfl w4.heap.size 38 (.agg #[.int .i64 0, .int .i64 0]) 2 16 Try.underlying22 Try.info_field rfl (by omega) _ ls (fieldCells fs) rfl ?_ b lt ct (fieldCells gs) rfl ?_ ?_ ?_ ?_ ?_ ?_ ?_ ?_; exact O5.out; exact nt; exact (by rw [fieldCells_length]; exact by rw [ltf.out]); exact ht5.news; exact fieldCells_one _; (unfold maxLen; omega); omega; (first | omega | (simp; try omega)); intro v6 w6 own6 bel6; have O6 := Lib.hid own6; have c6 := c5.trans bel6; clear own6))
  have own6 := O6.out
  rw [fieldCells_append] at own6
  obtain ⟨pb, qb, hpb, both⟩ := ownFields own6 (by omega) HWB.out
  rw [hpb]
  replace hs := hs.mono c6
  replace ht := ht.mono c6
  replace hv := hv.mono c6
  replace hu := hu.mono c6
  replace x := x.mono c6
  replace y := y.mono c6
  replace Bel := below_then Bel c6
  have HB := Lib.hid both
  have both := HB.out
  clear O6 O5 own6 HB
  refine (refright2_any _ _ _ _ (fs ++ gs) both).mono ?_
  rintro e w7 ⟨rfl, b7⟩
  replace hs := hs.mono b7
  replace ht := ht.mono b7
  replace hv := hv.mono b7
  replace hu := hu.mono b7
  replace x := x.mono b7
  replace y := y.mono b7
  replace both := both.mono b7
  replace Bel := below_then Bel b7
  rw [HRB.out]
  go_wp2
  go_ret
  exact ⟨rfl, Bel⟩
set_option maxRecDepth 100000 in
set_option maxHeartbeats 2000000 in
theorem joins_yes (w : World) (a : Option Addr) (ls cs : Nat) (b : Option Addr) (lt ct : Nat) (c : Option Addr) (lv cv : Nat) (d : Option Addr) (lu cu : Nat) (fs gs : List (Int × Int)) (vs us : List Int) (hs : FieldsAt w a ls fs) (ht : FieldsAt w b lt gs) (hv : IntsAt w c lv vs) (hu : IntsAt w d lu us) (ns : a = none → ls = 0 ∧ cs = 0) (nt : b = none → lt = 0 ∧ ct = 0) (nv : c = none → lv = 0 ∧ cv = 0) (nu : d = none → lu = 0 ∧ cu = 0) (h1 : ls ≤ 10) (h2 : lt ≤ 7) (h3 : RightS2 fs) (h4 : RightS2 gs) (h5 : lv ≤ 40) (h6 : lu ≤ 40) (hcs : inS fs vs = 0) (hct : inS gs us = 0) :
    Calls Try.prog 8 #[.agg #[.slice a ls cs, .slice b lt ct, .slice c lv cv, .slice d lu cu]] w fun e w' => e = .returned (.bool true) ∧ Below w.heap.size w w' := by
  have hm1 := hs.small
  have hm2 := ht.small
  have hm3 := hv.small
  have hm4 := hu.small
  have g1 : decide ((10 : Int) < (ls : Int)) = false := by simp; omega
  have g1' : decide (10 < ls) = false := by simp; omega
  have g2 : decide ((7 : Int) < (lt : Int)) = false := by simp; omega
  have g2' : decide (7 < lt) = false := by simp; omega
  have HRhs := Lib.hid (show decide (RightS2 fs) = true by simpa using h3)
  have HRht := Lib.hid (show decide (RightS2 gs) = true by simpa using h4)
  have g5 : decide ((40 : Int) < (lv : Int)) = false := by simp; omega
  have g5' : decide (40 < lv) = false := by simp; omega
  have g6 : decide ((40 : Int) < (lu : Int)) = false := by simp; omega
  have g6' : decide (40 < lu) = false := by simp; omega
  have hrs := h3.2.2
  have hrt := h4.2.2
  have HES := Lib.hid (show (if (0 : Int) = 0 then encS fs vs else []) = encS fs vs from rfl)
  have HET := Lib.hid (show (if (0 : Int) = 0 then encS gs us else []) = encS gs us from rfl)
  have HCS := Lib.hid hcs
  have HCT := Lib.hid hct
  have hrb : ∀ f ∈ fs ++ gs, RightF f := fun f hf => (List.mem_append.1 hf).elim (hrs f) (hrt f)
  have hRB : RightS2 (fs ++ gs) := ⟨by rw [List.length_append]; have := h3.1; omega, by rw [List.length_append, hs.len_eq, ht.len_eq]; omega, hrb⟩
  have HRB := Lib.hid (show decide (RightS2 (fs ++ gs)) = true by simpa using hRB)
  have hwb : ∀ f ∈ fs ++ gs, (-9223372036854775808 ≤ f.1 ∧ f.1 ≤ 9223372036854775807) ∧ (-9223372036854775808 ≤ f.2 ∧ f.2 ≤ 9223372036854775807) := fun f hf => (List.mem_append.1 hf).elim (hs.wf f) (ht.wf f)
  have HWB := Lib.hid hwb
  have lsf := Lib.hid hs.len_eq
  have ltf := Lib.hid ht.len_eq
  have lvf := Lib.hid hv.len_eq
  have luf := Lib.hid hu.len_eq
  have HCB := Lib.hid (inS_append fs gs vs us hcs hct)
  have HEB := Lib.hid (show (if (0 : Int) = 0 then encS (fs ++ gs) (vs ++ us) else []) = encS (fs ++ gs) (vs ++ us) from rfl)
  obtain ⟨n, hn⟩ : ∃ n, bitsF fs = n := ⟨_, rfl⟩
  obtain ⟨m, hm⟩ : ∃ m, bitsF gs = m := ⟨_, rfl⟩
  have hnm := bitsF_append fs gs
  rw [hn, hm] at hnm
  have k1 := bytesF_bits fs
  have k2 := bytesF_bits gs
  have k3 := bytesF_bits (fs ++ gs)
  rw [hn] at k1
  rw [hm] at k2
  rw [hnm] at k3
  have q1 := bitsF_le fs hrs fs.length (Nat.le_refl _)
  have q2 := bitsF_le gs hrt gs.length (Nat.le_refl _)
  rw [List.take_length, hn, hs.len_eq] at q1
  rw [List.take_length, hm, ht.len_eq] at q2
  have p1 : bytesF fs ≤ 100 := by unfold bytesF; split <;> omega
  have p2 : bytesF gs ≤ 100 := by unfold bytesF; split <;> omega
  have p3 : bytesF (fs ++ gs) ≤ 100 := by unfold bytesF; split <;> omega
  have HJ := Lib.hid (enc_join_bit fs gs vs us (inS_zero hcs).1)
  have Hn := Lib.hid hn
  have Hm := Lib.hid hm
  have Hnm := Lib.hid hnm
  have L1 := Lib.hid (encS_length fs vs)
  have L2 := Lib.hid (encS_length gs us)
  have L3 := Lib.hid (encS_length (fs ++ gs) (vs ++ us))
  clear hcs hct h3 h4 hwb hn hm hnm
  go_enter Try.func8, Try.ntmps8
  go_wp2_with fail
  replace hs := hs.mono (below_alloc _ (.cells #[.slice a ls cs, .slice b lt ct, .slice c lv cv, .slice d lu cu] 51))
  replace ht := ht.mono (below_alloc _ (.cells #[.slice a ls cs, .slice b lt ct, .slice c lv cv, .slice d lu cu] 51))
  replace hv := hv.mono (below_alloc _ (.cells #[.slice a ls cs, .slice b lt ct, .slice c lv cv, .slice d lu cu] 51))
  replace hu := hu.mono (below_alloc _ (.cells #[.slice a ls cs, .slice b lt ct, .slice c lv cv, .slice d lu cu] 51))
  have Bel := below_alloc w (.cells #[.slice a ls cs, .slice b lt ct, .slice c lv cv, .slice d lu cu] 51)
  refine (shown_any _).mono ?_
  rintro e w1 ⟨rfl, b1⟩
  replace hs := hs.mono b1
  replace ht := ht.mono b1
  replace hv := hv.mono b1
  replace hu := hu.mono b1
  replace Bel := below_then Bel b1
  go_wp2_with fail
  refine (refright2_any _ _ _ _ fs hs).mono ?_
  rintro e r2 ⟨rfl, rb2⟩
  replace hs := hs.mono rb2
  replace ht := ht.mono rb2
  replace hv := hv.mono rb2
  replace hu := hu.mono rb2
  replace Bel := below_then Bel rb2
  rw [HRhs.out]
  go_wp2_with fail
  refine (refright2_any _ _ _ _ gs ht).mono ?_
  rintro e r3 ⟨rfl, rb3⟩
  replace hs := hs.mono rb3
  replace ht := ht.mono rb3
  replace hv := hv.mono rb3
  replace hu := hu.mono rb3
  replace Bel := below_then Bel rb3
  rw [HRht.out]
  go_wp2_with fail
  refine (schemaencode_any _ _ _ _ _ _ _ fs vs hrs (by omega) hs hv _ 0 HCS.out HES.out).mono ?_
  rintro e w3 ⟨xa, xn, xc, rfl, x, b3⟩
  replace hs := hs.mono b3
  replace ht := ht.mono b3
  replace hv := hv.mono b3
  replace hu := hu.mono b3
  replace Bel := below_then Bel b3
  go_wp2_with fail
  refine (schemaencode_any _ _ _ _ _ _ _ gs us hrt (by omega) ht hu _ 0 HCT.out HET.out).mono ?_
  rintro e w4 ⟨ya, yn, yc, rfl, y, b4⟩
  replace hs := hs.mono b4
  replace ht := ht.mono b4
  replace hv := hv.mono b4
  replace hu := hu.mono b4
  replace x := x.mono b4
  replace Bel := below_then Bel b4
  go_wp2_with (first | (at_builtin; refine append_sz rfl (.tmp 72) (.tmp 73) 22 rfl w4.heap.size 38 (.agg #[.int .i64 0, .int .i64 0]) 2 16 Try.underlying22 Try.info_field rfl (by omega) _ 0 [] rfl ?_ a ls cs (fieldCells fs) rfl ?_ ?_ ?_ ?_ ?_ ?_ ?_ ?_; exact (World.ownsRow_made w4 #[] 0 (Nat.le_refl _) (by unfold maxLen; omega) rfl); exact ns; exact (by rw [fieldCells_length]; exact by rw [lsf.out]); exact (fun ad ha j u hj => cellAlloc w4 _ (hs.news ad ha j u hj)); exact fieldCells_one _; (unfold maxLen; omega); omega; (first | omega | (simp; try omega)); intro v5 w5 own5 bel5; simp only [Nat.zero_add, List.nil_append] at own5; have O5 := Lib.hid own5; have c5 := (below_alloc w4 (.cells #[] 38)).trans bel5; have ht5 := ht.mono c5; have z5 := bel5.size; simp at z5; clear own5) | (at_builtin; refine append_sz rfl (.tmp 74) (.tmp 75) 22 rfl w4.heap.size 38 (.agg #[.int .i64 0, .int .i64 0]) 2 16 Try.underlying22 Try.info_field rfl (by omega) _ ls (fieldCells fs) rfl ?_ b lt ct (fieldCells gs) rfl ?_ ?_ ?_ ?_ ?_ ?_ ?_ ?_; exact O5.out; exact nt; exact (by rw [fieldCells_length]; exact by rw [ltf.out]); exact ht5.news; exact fieldCells_one _; (unfold maxLen; omega); omega; (first | omega | (simp; try omega)); intro v6 w6 own6 bel6; have O6 := Lib.hid own6; have c6 := c5.trans bel6; clear own6))
  have own6 := O6.out
  rw [fieldCells_append] at own6
  obtain ⟨pb, qb, hpb, both⟩ := ownFields own6 (by omega) HWB.out
  rw [hpb]
  replace hs := hs.mono c6
  replace ht := ht.mono c6
  replace hv := hv.mono c6
  replace hu := hu.mono c6
  replace x := x.mono c6
  replace y := y.mono c6
  replace Bel := below_then Bel c6
  have HB := Lib.hid both
  have both := HB.out
  clear O6 O5 own6 HB
  refine (refright2_any _ _ _ _ (fs ++ gs) both).mono ?_
  rintro e w7 ⟨rfl, b7⟩
  replace hs := hs.mono b7
  replace ht := ht.mono b7
  replace hv := hv.mono b7
  replace hu := hu.mono b7
  replace x := x.mono b7
  replace y := y.mono b7
  replace both := both.mono b7
  replace Bel := below_then Bel b7
  rw [HRB.out]
  go_wp2_with (first | (at_builtin; refine append_any rfl (.tmp 91) (.tmp 92) 23 rfl w7.heap.size 3 (.int .i64 0) 8 Try.underlying23 Try.info_int rfl _ 0 [] rfl ?_ c lv cv (vs.map (Value.int .i64)) rfl ?_ ?_ ?_ ?_ ?_ ?_ ?_ ?_; exact (World.ownsRow_made w7 #[] 0 (Nat.le_refl _) (by unfold maxLen; omega) rfl); exact nv; exact (by rw [List.length_map]; exact lvf.out); exact (fun ad ha j u hj => cellAlloc w7 _ (hv.news ad ha j u hj)); exact i64_oneCell _; (unfold maxLen; omega); omega; (first | omega | (simp; try omega)); intro v8 w8 own8 bel8; simp only [Nat.zero_add, List.nil_append] at own8; have O8 := Lib.hid own8; have c8 := (below_alloc w7 (.cells #[] 3)).trans bel8; have hu8 := hu.mono c8; have z8 := bel8.size; simp at z8; clear own8) | (at_builtin; refine append_any rfl (.tmp 93) (.tmp 94) 23 rfl w7.heap.size 3 (.int .i64 0) 8 Try.underlying23 Try.info_int rfl _ lv (vs.map (Value.int .i64)) rfl ?_ d lu cu (us.map (Value.int .i64)) rfl ?_ ?_ ?_ ?_ ?_ ?_ ?_ ?_; exact O8.out; exact nu; exact (by rw [List.length_map]; exact luf.out); exact hu8.news; exact i64_oneCell _; (unfold maxLen; omega); omega; (first | omega | (simp; try omega)); intro v9 w9 own9 bel9; have O9 := Lib.hid own9; have c9 := c8.trans bel9; clear own9))
  have own9 := O9.out
  rw [← List.map_append] at own9
  obtain ⟨pv, qv, hpv, vec⟩ := ownInts own9 (by omega)
  rw [hpv]
  replace hs := hs.mono c9
  replace ht := ht.mono c9
  replace hv := hv.mono c9
  replace hu := hu.mono c9
  replace x := x.mono c9
  replace y := y.mono c9
  replace both := both.mono c9
  replace Bel := below_then Bel c9
  have HB := Lib.hid vec
  have vec := HB.out
  clear O9 O8 own9 HB
  refine (schemaencode_any _ _ _ _ _ _ _ (fs ++ gs) (vs ++ us) hrb (by omega) both vec _ 0 HCB.out HEB.out).mono ?_
  rintro e w10 ⟨za, zn, zc, rfl, z, b10⟩
  replace hs := hs.mono b10
  replace ht := ht.mono b10
  replace hv := hv.mono b10
  replace hu := hu.mono b10
  replace x := x.mono b10
  replace y := y.mono b10
  replace both := both.mono b10
  replace vec := vec.mono b10
  replace Bel := below_then Bel b10
  go_wp2_with fail
  refine (schemabits_any _ _ _ _ fs hrs (by omega) hs).mono ?_
  rintro e w11 ⟨rfl, b11⟩
  replace hs := hs.mono b11
  replace ht := ht.mono b11
  replace hv := hv.mono b11
  replace hu := hu.mono b11
  replace x := x.mono b11
  replace y := y.mono b11
  replace both := both.mono b11
  replace vec := vec.mono b11
  replace z := z.mono b11
  replace Bel := below_then Bel b11
  rw [Hn.out]
  go_wp2_with fail
  refine (schemabits_any _ _ _ _ gs hrt (by omega) ht).mono ?_
  rintro e w12 ⟨rfl, b12⟩
  replace hs := hs.mono b12
  replace ht := ht.mono b12
  replace hv := hv.mono b12
  replace hu := hu.mono b12
  replace x := x.mono b12
  replace y := y.mono b12
  replace both := both.mono b12
  replace vec := vec.mono b12
  replace z := z.mono b12
  replace Bel := below_then Bel b12
  rw [Hm.out]
  go_wp2_with fail
  refine (schemabits_any _ _ _ _ (fs ++ gs) hrb (by omega) both).mono ?_
  rintro e w13 ⟨rfl, b13⟩
  replace hs := hs.mono b13
  replace ht := ht.mono b13
  replace hv := hv.mono b13
  replace hu := hu.mono b13
  replace x := x.mono b13
  replace y := y.mono b13
  replace both := both.mono b13
  replace vec := vec.mono b13
  replace z := z.mono b13
  replace Bel := below_then Bel b13
  rw [Hnm.out]
  have ex : xn = bytesF fs := by rw [← L1.out]; exact x.len_eq.symm
  have ey : yn = bytesF gs := by rw [← L2.out]; exact y.len_eq.symm
  have ez : zn = bytesF (fs ++ gs) := by rw [← L3.out]; exact z.len_eq.symm
  rw [← ex] at k1 p1
  rw [← ey] at k2 p2
  rw [← ez] at k3 p3
  have t0 : (((n + m : Nat) : Int) != ((n : Int) + (m : Int))) = false := by simp
  have t1 : decide ((zn : Int) * 8 < (n : Int) + (m : Int)) = false := by simp; omega
  have t2 : decide ((xn : Int) * 8 < (n : Int)) = false := by simp; omega
  have t3 : decide ((yn : Int) * 8 < (m : Int)) = false := by simp; omega
  clear ex ey ez L1 L2 L3 hs ht hv hu both vec
  go_wp2
  have xX : BitsBox (((w13.alloc (.cells #[.slice za zn zc, .int .i64 (8 * (zn : Int))] 53)).alloc (.cells #[.slice xa xn xc, .int .i64 (8 * (xn : Int))] 53)).alloc (.cells #[.slice ya yn yc, .int .i64 (8 * (yn : Int))] 53)) w13.heap.size za zn zc (8 * (zn : Int)) := (BitsBox.below (W := w13.alloc (.cells #[.slice za zn zc, .int .i64 (8 * (zn : Int))] 53)) (World.alloc_heap_new _ _) (below_alloc _ _)).below (below_alloc _ _)
  have xP : BitsBox (((w13.alloc (.cells #[.slice za zn zc, .int .i64 (8 * (zn : Int))] 53)).alloc (.cells #[.slice xa xn xc, .int .i64 (8 * (xn : Int))] 53)).alloc (.cells #[.slice ya yn yc, .int .i64 (8 * (yn : Int))] 53)) (w13.heap.size + 1) xa xn xc (8 * (xn : Int)) := by
    have h := BitsBox.below (W := (w13.alloc (.cells #[.slice za zn zc, .int .i64 (8 * (zn : Int))] 53)).alloc (.cells #[.slice xa xn xc, .int .i64 (8 * (xn : Int))] 53)) (World.alloc_heap_new _ _) (below_alloc _ (.cells #[.slice ya yn yc, .int .i64 (8 * (yn : Int))] 53)) (b := (w13.alloc (.cells #[.slice za zn zc, .int .i64 (8 * (zn : Int))] 53)).heap.size) (a := xa) (len := xn) (cap := xc) (N := 8 * (xn : Int))
    rwa [World.size_alloc] at h
  have xQ : BitsBox (((w13.alloc (.cells #[.slice za zn zc, .int .i64 (8 * (zn : Int))] 53)).alloc (.cells #[.slice xa xn xc, .int .i64 (8 * (xn : Int))] 53)).alloc (.cells #[.slice ya yn yc, .int .i64 (8 * (yn : Int))] 53)) (w13.heap.size + 2) ya yn yc (8 * (yn : Int)) := by
    have h : BitsBox (((w13.alloc (.cells #[.slice za zn zc, .int .i64 (8 * (zn : Int))] 53)).alloc (.cells #[.slice xa xn xc, .int .i64 (8 * (xn : Int))] 53)).alloc (.cells #[.slice ya yn yc, .int .i64 (8 * (yn : Int))] 53)) ((w13.alloc (.cells #[.slice za zn zc, .int .i64 (8 * (zn : Int))] 53)).alloc (.cells #[.slice xa xn xc, .int .i64 (8 * (xn : Int))] 53)).heap.size ya yn yc (8 * (yn : Int)) := World.alloc_heap_new _ _
    rwa [World.size_alloc, World.size_alloc] at h
  have ba : Below w13.heap.size w13 (((w13.alloc (.cells #[.slice za zn zc, .int .i64 (8 * (zn : Int))] 53)).alloc (.cells #[.slice xa xn xc, .int .i64 (8 * (xn : Int))] 53)).alloc (.cells #[.slice ya yn yc, .int .i64 (8 * (yn : Int))] 53)) := ((below_alloc _ _).alloc (by simp) _).alloc (by simp; omega) _
  replace x := x.mono ba
  replace y := y.mono ba
  replace z := z.mono ba
  replace Bel := below_then Bel ba
  clear ba t0 t1 t2 t3
  generalize (((w13.alloc (.cells #[.slice za zn zc, .int .i64 (8 * (zn : Int))] 53)).alloc (.cells #[.slice xa xn xc, .int .i64 (8 * (xn : Int))] 53)).alloc (.cells #[.slice ya yn yc, .int .i64 (8 * (yn : Int))] 53)) = W3 at *
  generalize w13.heap.size = G at *
  have hx0 := xX
  have hx1 := xP
  have hx2 := xQ
  have hy0 := x
  have hy1 := y
  have hy2 := z
  clear xX xP xQ x y z
  go_loopw [20] (fun i wr => ∃ j : Nat, j ≤ n + m ∧ i = .int .i64 (j : Int) ∧ Below W3.heap.size W3 wr) (fun i _ => n + m - (intOf i).toNat)
  case atStart => exact ⟨0, by omega, rfl, Below.refl _ _⟩
  case round =>
    obtain ⟨j, hj, rfl, Bj⟩ := hrel
    by_cases hlt : j < n + m
    · have hjlt : (j : Int) < (n : Int) + (m : Int) := by omega
      have xX := hx0.below Bj
      have xP := hx1.below Bj
      have xQ := hx2.below Bj
      have x := hy0.mono Bj
      have y := hy1.mono Bj
      have z := hy2.mono Bj
      have f0 := xP.cell0
      have f1 := xP.cell1
      have f2 := xQ.cell0
      have f3 := xQ.cell1
      have f4 := xX.cell0
      have f5 := xX.cell1
      clear hx0 hx1 hx2 hy0 hy1 hy2
      obtain ⟨E, hE⟩ : ∃ E, bitAt (encS (fs ++ gs) (vs ++ us)) j = E := ⟨_, rfl⟩
      have HE := Lib.hid hE
      by_cases hjn : j < n
      · have hlt2 : (j : Int) < (n : Int) := by omega
        have e1 : bitAt (encS fs vs) j = E := by rw [← hE, HJ.out, Hn.out, if_pos (by omega)]
        have He1 := Lib.hid e1
        clear e1
        go_wp2_with fail
        refine (refbit_any _ xa xn xc _ _ j (by omega) (by omega) x).mono ?_
        rintro e w14 ⟨rfl, b14⟩
        rw [He1.out]
        replace xX := xX.below b14
        replace z := z.mono b14
        have Bw := below_then Bj b14
        have i0 := xX.cell0
        have i1 := xX.cell1
        go_wp2_with fail
        refine (refbit_any _ za zn zc _ _ j (by omega) (by omega) z).mono ?_
        rintro e w15 ⟨rfl, b15⟩
        rw [HE.out]
        go_wp2
        go_roundw
        case rel => exact ⟨j + 1, by omega, by go_num, below_then Bw b15⟩
        case measure => simp [intOf]; omega
      · have hlt2 : (n : Int) ≤ (j : Int) := by omega
        have hsb : (j : Int) - (n : Int) = ((j - n : Nat) : Int) := by omega
        have e1 : bitAt (encS gs us) (j - n) = E := by rw [← hE, HJ.out, Hn.out, if_neg (by omega)]
        have He1 := Lib.hid e1
        clear e1
        go_wp2_with fail
        refine (refbit_any _ ya yn yc _ _ (j - n) (by omega) (by omega) y).mono ?_
        rintro e w14 ⟨rfl, b14⟩
        rw [He1.out]
        replace xX := xX.below b14
        replace z := z.mono b14
        have Bw := below_then Bj b14
        have i0 := xX.cell0
        have i1 := xX.cell1
        go_wp2_with fail
        refine (refbit_any _ za zn zc _ _ j (by omega) (by omega) z).mono ?_
        rintro e w15 ⟨rfl, b15⟩
        rw [HE.out]
        go_wp2
        go_roundw
        case rel => exact ⟨j + 1, by omega, by go_num, below_then Bw b15⟩
        case measure => simp [intOf]; omega
    · have hjlt : ¬ (j : Int) < (n : Int) + (m : Int) := by omega
      have hge : (n : Int) + (m : Int) ≤ (j : Int) := by omega
      go_wp2
      go_ret
      exact ⟨rfl, below_then Bel Bj⟩
theorem schemajoins_any (w : World) (a : Option Addr) (ls cs : Nat) (b : Option Addr) (lt ct : Nat) (c : Option Addr) (lv cv : Nat) (d : Option Addr) (lu cu : Nat) (fs gs : List (Int × Int)) (vs us : List Int) (hs : FieldsAt w a ls fs) (ht : FieldsAt w b lt gs) (hv : IntsAt w c lv vs) (hu : IntsAt w d lu us) (ns : a = none → ls = 0 ∧ cs = 0) (nt : b = none → lt = 0 ∧ ct = 0) (nv : c = none → lv = 0 ∧ cv = 0) (nu : d = none → lu = 0 ∧ cu = 0) :
    Calls Try.prog 8 #[.agg #[.slice a ls cs, .slice b lt ct, .slice c lv cv, .slice d lu cu]] w fun e w' => e = .returned (.bool true) ∧ Below w.heap.size w w' := by
  by_cases h1 : ls ≤ 10
  case neg => exact joins_g0 w a ls cs b lt ct c lv cv d lu cu fs gs vs us hs ht hv hu ns nt nv nu (by omega)
  by_cases h2 : lt ≤ 7
  case neg => exact joins_g1 w a ls cs b lt ct c lv cv d lu cu fs gs vs us hs ht hv hu ns nt nv nu h1 (by omega)
  by_cases h3 : RightS2 fs
  case neg => exact joins_g2 w a ls cs b lt ct c lv cv d lu cu fs gs vs us hs ht hv hu ns nt nv nu h1 h2 h3
  by_cases h4 : RightS2 gs
  case neg => exact joins_g3 w a ls cs b lt ct c lv cv d lu cu fs gs vs us hs ht hv hu ns nt nv nu h1 h2 h3 h4
  by_cases h5 : lv ≤ 40
  case neg => exact joins_g4 w a ls cs b lt ct c lv cv d lu cu fs gs vs us hs ht hv hu ns nt nv nu h1 h2 h3 h4 (by omega)
  by_cases h6 : lu ≤ 40
  case neg => exact joins_g5 w a ls cs b lt ct c lv cv d lu cu fs gs vs us hs ht hv hu ns nt nv nu h1 h2 h3 h4 h5 (by omega)
  by_cases c1 : inS fs vs = 0
  case neg => exact joins_n1 w a ls cs b lt ct c lv cv d lu cu fs gs vs us hs ht hv hu ns nt nv nu h1 h2 h3 h4 h5 h6 _ rfl c1 _ rfl
  by_cases c2 : inS gs us = 0
  case neg => exact joins_n2 w a ls cs b lt ct c lv cv d lu cu fs gs vs us hs ht hv hu ns nt nv nu h1 h2 h3 h4 h5 h6 c1 _ rfl c2
  exact joins_yes w a ls cs b lt ct c lv cv d lu cu fs gs vs us hs ht hv hu ns nt nv nu h1 h2 h3 h4 h5 h6 c1 c2
end Go.Proofs.Ytblipgmllpniaaa
