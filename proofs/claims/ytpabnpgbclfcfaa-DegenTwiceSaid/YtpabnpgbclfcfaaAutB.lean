/- Numbers of states: are they states, is one in a row, those of a set (by gen19b.py). -/
import Derived.Test.YtpabnpgbclfcfaaAutA
namespace Go.Proofs.Ytpabnpgbclfcfaa
open Go.RowKit
set_option linter.unusedVariables false
set_option linter.unusedSimpArgs false
theorem memD_iff (l : List Int) (p : Int) : p ∈ l ↔ ∃ i, i < l.length ∧ l.getD i 0 = p := by
  rw [List.mem_iff_getElem?]
  constructor
  · rintro ⟨i, hi⟩
    exact ⟨i, (List.getElem?_eq_some_iff.1 hi).1, by rw [List.getD_eq_getElem?_getD, hi]; rfl⟩
  · rintro ⟨i, hi, h⟩
    refine ⟨i, ?_⟩
    rw [List.getD_eq_getElem?_getD, List.getElem?_eq_getElem hi] at h
    rw [List.getElem?_eq_getElem hi]
    exact congrArg some h
def StP (l : List Int) (N : Int) : Prop := ∀ y ∈ l, 0 ≤ y ∧ y < N
instance (l : List Int) (N : Int) : Decidable (StP l N) := by unfold StP; infer_instance
set_option maxHeartbeats 1000000 in
theorem states_any (w : World) (a : Option Addr) (len cap : Nat) (l : List Int) (N : Int) (h : IntsAt w a len l) :
    Calls Try.prog 14 #[.slice a len cap, .int .i64 N] w fun e w' => e = .returned (.bool (decide (StP l N))) ∧ Below w.heap.size w w' := by
  have hm := h.small
  have hlen := h.len_eq
  obtain ⟨T, hT⟩ : ∃ T, decide (StP l N) = T := ⟨_, rfl⟩
  rw [hT]
  have HT := Lib.hid hT
  have HL := Lib.hid hlen
  clear hT hlen
  go_enter Try.func14, Try.ntmps14
  go_wp2_with fail
  go_loopw [5] (fun i w' => ∃ j : Nat, j ≤ len ∧ i = .int .i64 (j : Nat) ∧ (∀ i, i < j → 0 ≤ l.getD i 0 ∧ l.getD i 0 < N) ∧ Below w.heap.size w w') (fun i _ => len - (intOf i).toNat)
  case atStart => exact ⟨0, Nat.zero_le _, rfl, fun i hi => by omega, Below.refl _ _⟩
  case round =>
    obtain ⟨j, hj, rfl, hall, bel⟩ := hrel
    by_cases hjl : j < len
    · have f1 : decide (j < len) = true := by simpa using hjl
      obtain ⟨b, off, rfl, hbs, hat⟩ := (h.mono bel).at_.resolve_left (by omega)
      have hx := hat j hjl
      obtain ⟨q, hq⟩ : ∃ q, l.getD j 0 = q := ⟨_, rfl⟩
      rw [hq] at hx
      have hbad : ¬ (0 ≤ q ∧ q < N) → T = false := fun hn => by
        rw [← HT.out]
        refine decide_eq_false fun hs => hn ?_
        have := hs _ ((memD_iff l q).2 ⟨j, by rw [HL.out]; exact hjl, hq⟩)
        exact this
      have HB := Lib.hid hbad
      have HQ := Lib.hid hq
      have HA := Lib.hid hall
      clear hat hq hbad hall
      by_cases h0 : q < 0
      · have f2 : decide (q < 0) = true := by simpa using h0
        obtain rfl := HB.out (by omega)
        clear h0
        go_wp2_with fail
        go_ret
        exact ⟨rfl, bel⟩
      have f2 : decide (q < 0) = false := by simpa using h0
      by_cases h1 : N ≤ q
      · have f3 : decide (N ≤ q) = true := by simpa using h1
        obtain rfl := HB.out (by omega)
        clear h0 h1
        go_wp2_with fail
        go_ret
        exact ⟨rfl, bel⟩
      have f3 : decide (N ≤ q) = false := by simpa using h1
      have HO := Lib.hid (show 0 ≤ q ∧ q < N by omega)
      clear h0 h1
      go_wp2_with fail
      refine ⟨⟨j + 1, by omega, by simp, fun i hi => ?_, bel⟩, by simp [intOf]; omega⟩
      by_cases hij : i = j
      · rw [hij, HQ.out]; exact HO.out
      · exact HA.out i (by omega)
    · have f1 : decide (j < len) = false := by simpa using hjl
      have hT : T = true := by
        rw [← HT.out]
        refine decide_eq_true fun y hy => ?_
        obtain ⟨i, hi, rfl⟩ := (memD_iff l y).1 hy
        exact hall i (by have := HL.out; omega)
      clear hall
      subst hT
      go_wp2_with fail
      go_ret
      exact ⟨rfl, bel⟩
/-- A row of numbers of its own, in one block of a span. -/
def NumP (lo hi : Nat) (l : List Int) (v : Value) (w : World) : Prop := ∃ g, v = .slice (some ⟨g, 0, none⟩) l.length l.length ∧ lo ≤ g ∧ g < hi ∧ w.rowIs g 3 l.length fun i => .int .i64 (l.getD i 0)
theorem NumP.ints {lo hi : Nat} {l : List Int} {v : Value} {w : World} (h : NumP lo hi l v w) (hl : l.length ≤ 9223372036854775807) : ∃ a c, v = .slice a l.length c ∧ IntsAt w a l.length l := by
  obtain ⟨g, rfl, _, _, h⟩ := h
  exact ⟨_, _, rfl, rfl, hl, .inr ⟨g, 0, rfl, h.lt, fun i hi => by rw [Nat.zero_add]; exact h.cell hi⟩⟩
set_option maxRecDepth 20000 in
set_option maxHeartbeats 1000000 in
theorem numbers_any (w : World) (k s : Nat) (a : Option Addr) (len cap : Nat) (l : List Int) (h : IntsAt w a len l) (hk : k ≤ 1000) (hs : s ≤ 1000) (hl : ∀ y ∈ l, 0 ≤ y ∧ y ≤ 1000000) (hlen : len ≤ 1000000) :
    Calls Try.prog 18 #[.int .i64 (k : Nat), .slice a len cap, .int .i64 (s : Nat)] w fun e w' => (∃ v, e = .returned v ∧ NumP w.heap.size w'.heap.size (l.map fun y => y * (k : Int) + (s : Int)) v w') ∧ Below w.heap.size w w' := by
  have hmk := run_make_row' (P := Try.prog) 24 3 (.int .i64 0) 8 Try.underlying24 Try.info_int rfl .i64 .i64 len (by omega) (by omega)
  have hm0 := World.rowIs_made w (.int .i64 0) len 3
  have bm := (Below.refl w.heap.size w).alloc (Nat.le_refl _) (.cells (madeCells #[Value.int .i64 0] len) 3)
  obtain ⟨f, hf⟩ : ∃ f : Nat → Value, f = fun i => .int .i64 (l.getD i 0 * (k : Int) + (s : Int)) := ⟨_, rfl⟩
  have HF := Lib.hid hf
  have HL := Lib.hid hl
  have hlen2 := h.len_eq
  clear hl hf
  go_enter Try.func18, Try.ntmps18
  go_upto_region 3 with fail
  obtain ⟨v1, hv⟩ : ∃ v, w.alloc (.cells (madeCells #[Value.int .i64 0] len) 3) = v := ⟨_, rfl⟩
  obtain ⟨gs, hg⟩ : ∃ g, w.heap.size = g := ⟨_, rfl⟩
  have hm1 : v1.rowIs gs 3 len fun i => if i < 0 then f i else .int .i64 0 := by
    rw [← hv, ← hg]
    exact hm0.congr fun i hi => by simp
  have hgs : w.heap.size ≤ gs := Nat.le_of_eq hg
  rw [hv] at bm ⊢
  rw [hg] at ⊢
  have HM := Lib.hid hm1
  have HL2 := Lib.hid hlen2
  clear hv hg hm0 hm1 hlen2
  go_wp2_with fail
  go_loopw [16] (fun i w' => ∃ j : Nat, j ≤ len ∧ i = .int .i64 (j : Nat) ∧ Hid (w'.rowIs gs 3 len fun i => if i < j then f i else .int .i64 0) ∧ Below w.heap.size w w') (fun i _ => len - (intOf i).toNat)
  case atStart => exact ⟨0, Nat.zero_le _, rfl, HM, bm⟩
  case round =>
    clear HM bm
    obtain ⟨j, hj, rfl, HM, bt⟩ := hrel
    by_cases hjn : j < len
    · have f1 : decide (j < len) = true := by simpa using hjn
      obtain ⟨b, off, rfl, hbs, hat⟩ := (h.mono bt).at_.resolve_left (by omega)
      have hx := hat j hjn
      have hy := HL.out (l.getD j 0) ((memD_iff l _).2 ⟨j, by rw [HL2.out]; exact hjn, rfl⟩)
      have hfj : f j = .int .i64 (l.getD j 0 * (k : Int) + (s : Int)) := by rw [HF.out]
      obtain ⟨q, hq⟩ : ∃ q, l.getD j 0 = q := ⟨_, rfl⟩
      rw [hq] at hx hy hfj
      have HFJ := Lib.hid hfj
      clear hat hq hfj
      go_wp2_with (first | (go_at_call 21; refine (number_any _ (k : Int) q (s : Int) (by omega) hy (by omega)).mono ?_; rintro e w2 ⟨rfl, rfl⟩; have hcell := HM.out.cell hjn; have hfr := HM.out.frozen j))
      refine ⟨⟨j + 1, by omega, by simp, Lib.hid ((HM.out.set j _).congr fun i hi => ?_), bt.setCell hgs _⟩, by simp [intOf]; omega⟩
      by_cases hij : i = j
      · subst hij; rw [if_pos rfl, if_pos (by omega), HFJ.out]
      · rw [if_neg hij]
        by_cases h2 : i < j
        · rw [if_pos h2, if_pos (by omega)]
        · rw [if_neg h2, if_neg (by omega)]
    · have f1 : decide (j < len) = false := by simpa using hjn
      obtain rfl : j = len := by omega
      go_wp2_with fail
      go_ret
      refine ⟨⟨.slice (some ⟨gs, 0, none⟩) j j, rfl, gs, by rw [List.length_map, HL2.out], hgs, HM.out.lt, ?_⟩, bt⟩
      rw [List.length_map, HL2.out]
      refine HM.out.congr fun i hi => ?_
      rw [if_pos hi, HF.out]
      have hil : i < l.length := by rw [HL2.out]; exact hi
      simp [hil]
end Go.Proofs.Ytpabnpgbclfcfaa
