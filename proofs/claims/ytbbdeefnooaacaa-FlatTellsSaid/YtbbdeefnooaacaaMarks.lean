/- Marks: two flags for each place, in a row of bytes. -/
import Derived.Test.YtbbdeefnooaacaaTabY
import Derived.BigQuiet
import Derived.Deep.RegionWith
namespace Go.Proofs.Ytbbdeefnooaacaa
open Go.RowKit
set_option linter.unusedVariables false
set_option linter.unusedSimpArgs false

/-- Is flag f of place p set? -/
def hasB (L : List Nat) (p f : Nat) : Bool := (L.getD p 0).testBit f
/-- The row with flag f of place p set. -/
def withB (L : List Nat) (p f : Nat) : List Nat := (L ++ List.replicate (p + 1 - L.length) 0).set p (L.getD p 0 ||| (f + 1))
theorem getD_out {L : List Nat} {q : Nat} (h : L.length ≤ q) : L.getD q 0 = 0 := by rw [List.getD_eq_getElem?_getD, List.getElem?_eq_none h]; rfl
theorem withB_len (L : List Nat) (p f : Nat) : (withB L p f).length = max L.length (p + 1) := by
  simp [withB]
  omega
theorem withB_getD (L : List Nat) (p f q : Nat) : (withB L p f).getD q 0 = if q = p then L.getD p 0 ||| (f + 1) else L.getD q 0 := by
  unfold withB
  rw [List.getD_eq_getElem?_getD, List.getElem?_set]
  by_cases h : p = q
  · subst h
    rw [if_pos rfl, if_pos rfl, if_pos (by simp; omega)]
    rfl
  · rw [if_neg h, if_neg (Ne.symm h)]
    by_cases h1 : q < L.length
    · rw [List.getElem?_append_left h1, ← List.getD_eq_getElem?_getD]
    · rw [List.getElem?_append_right (by omega), getD_out (by omega), List.getElem?_replicate]
      split <;> rfl
theorem hasB_withB {L : List Nat} {p f q g : Nat} (hf : f < 2) (hg : g < 2) : hasB (withB L p f) q g = (hasB L q g || (decide (q = p) && decide (g = f))) := by
  unfold hasB
  rw [withB_getD]
  by_cases h : q = p
  · subst h
    rw [if_pos rfl, Nat.testBit_or]
    have : (f + 1).testBit g = decide (g = f) := by
      have hf2 : f = 0 ∨ f = 1 := by omega
      have hg2 : g = 0 ∨ g = 1 := by omega
      rcases hf2 with rfl | rfl <;> rcases hg2 with rfl | rfl <;> decide
    rw [this]
    simp
  · rw [if_neg h]
    simp [h]
theorem hasB_out {L : List Nat} {p : Nat} (h : L.length ≤ p) (f : Nat) : hasB L p f = false := by
  unfold hasB
  rw [getD_out h]
  exact Nat.zero_testBit f
theorem withB_byte {L : List Nat} (hL : ∀ n ∈ L, n < 256) {p f : Nat} (hf : f < 2) : ∀ n ∈ withB L p f, n < 256 := by
  have h0 : ∀ q, L.getD q 0 < 256 := fun q => by
    rw [List.getD_eq_getElem?_getD]
    cases h : L[q]? with
    | none => simp
    | some v => exact hL v (List.mem_of_getElem? h)
  intro n hn
  obtain ⟨i, hi, rfl⟩ := List.getElem_of_mem hn
  have := withB_getD L p f i
  rw [List.getD_eq_getElem?_getD, List.getElem?_eq_getElem hi, Option.getD_some] at this
  rw [this]
  split
  · exact Nat.or_lt_two_pow (n := 8) (h0 p) (by omega)
  · exact h0 i
theorem bit_any (w : World) (f : Nat) (hf : f < 2) : Calls Try.prog 35 #[.int .i64 (f : Nat)] w fun e w' => e = .returned (.int .u8 ((f + 1 : Nat) : Int)) ∧ w = w' := by
  have hf2 : f = 0 ∨ f = 1 := by omega
  rcases hf2 with rfl | rfl
  · go_enter Try.func35, Try.ntmps35
    go_wp2_with fail
    go_ret
    exact ⟨rfl, rfl⟩
  · go_enter Try.func35, Try.ntmps35
    go_wp2_with fail
    go_ret
    exact ⟨rfl, rfl⟩
theorem bit_bad (w : World) (f : Int) (hf : f < 0 ∨ 1 < f) : Calls Try.prog 35 #[.int .i64 f] w fun e w' => e = .returned (.int .u8 0) ∧ w = w' := by
  have h0 : (f == 0) = false := by simp; omega
  have h1 : (f == 1) = false := by simp; omega
  go_enter Try.func35, Try.ntmps35
  go_wp2_with fail
  go_ret
  exact ⟨rfl, rfl⟩
theorem right_ok (w : World) (f : Nat) (hf : f < 2) : Calls Try.prog 34 #[.int .i64 (f : Nat)] w fun e w' => e = .returned (.bool true) ∧ w = w' := by
  go_enter Try.func34, Try.ntmps34
  go_wp2_with fail
  refine (bit_any _ f hf).mono ?_
  rintro e w1 ⟨rfl, rfl⟩
  have hz : (((f + 1 : Nat) : Int) != 0) = true := by simp; omega
  have hz2 : (((f : Nat) : Int) + 1 != 0) = true := by simp; omega
  have hz3 : (((f : Nat) : Int) + 1 == 0) = false := by simp; omega
  go_wp2_with fail
  go_ret
  exact ⟨rfl, rfl⟩
theorem right_bad (w : World) (f : Int) (hf : f < 0 ∨ 1 < f) : Calls Try.prog 34 #[.int .i64 f] w fun e w' => e = .returned (.bool false) ∧ w = w' := by
  go_enter Try.func34, Try.ntmps34
  go_wp2_with fail
  refine (bit_bad _ f hf).mono ?_
  rintro e w1 ⟨rfl, rfl⟩
  go_wp2_with fail
  go_ret
  exact ⟨rfl, rfl⟩
theorem and_u8 (a b : Nat) (ha : a < 256) (hb : b < 256) : bits .and .u8 (a : Int) (b : Int) = ((a &&& b : Nat) : Int) := by
  have hx : a &&& b < 2 ^ 8 := Nat.and_lt_two_pow a (by omega)
  have h1 : (BitVec.ofInt 8 (a : Int)).toNat = a := by
    rw [BitVec.ofInt_natCast, BitVec.toNat_ofNat]; exact Nat.mod_eq_of_lt (by omega)
  have h2 : (BitVec.ofInt 8 (b : Int)).toNat = b := by
    rw [BitVec.ofInt_natCast, BitVec.toNat_ofNat]; exact Nat.mod_eq_of_lt (by omega)
  show IntKind.u8.wrap ((BitVec.ofInt 8 (a : Int) &&& BitVec.ofInt 8 (b : Int)).toNat : Int) = _
  rw [BitVec.toNat_and, h1, h2, show ∀ n, IntKind.u8.wrap n = n % 256 from fun n => by simp [IntKind.wrap, IntKind.bits, IntKind.signed]]
  omega
theorem or_u8 (a b : Nat) (ha : a < 256) (hb : b < 256) : bits .or .u8 (a : Int) (b : Int) = ((a ||| b : Nat) : Int) := by
  have hx : a ||| b < 2 ^ 8 := Nat.or_lt_two_pow (by omega) (by omega)
  have h1 : (BitVec.ofInt 8 (a : Int)).toNat = a := by
    rw [BitVec.ofInt_natCast, BitVec.toNat_ofNat]; exact Nat.mod_eq_of_lt (by omega)
  have h2 : (BitVec.ofInt 8 (b : Int)).toNat = b := by
    rw [BitVec.ofInt_natCast, BitVec.toNat_ofNat]; exact Nat.mod_eq_of_lt (by omega)
  show IntKind.u8.wrap ((BitVec.ofInt 8 (a : Int) ||| BitVec.ofInt 8 (b : Int)).toNat : Int) = _
  rw [BitVec.toNat_or, h1, h2, show ∀ n, IntKind.u8.wrap n = n % 256 from fun n => by simp [IntKind.wrap, IntKind.bits, IntKind.signed]]
  omega
theorem and_bit (x f : Nat) (hx : x < 256) (hf : f < 2) : ((x &&& (f + 1) : Nat) != 0) = x.testBit f :=
  (show ∀ x, x < 256 → ∀ f, f < 2 → ((x &&& (f + 1) : Nat) != 0) = x.testBit f by decide +kernel) x hx f hf
theorem has_any (w : World) (a : Option Addr) (l c : Nat) (L : List Nat) (h : BytesAt w a l c L) (p f : Nat) (hf : f < 2) (hp : p ≤ 1048576) :
    Calls Try.prog 25 #[.slice a l c, .int .i64 (p : Nat), .int .i64 (f : Nat)] w fun e w' => e = .returned (.bool (hasB L p f)) ∧ Below w.heap.size w w' := by
  have hs := h.small
  have hl := h.len_eq
  by_cases hpl : p < l
  · have d1 : decide (p < l) = true := by simpa using hpl
    obtain ⟨b, off, rfl, hlt, hc⟩ := h.at_.resolve_left (by omega)
    have q := hc p hpl
    have hx : L.getD p 0 < 256 := by
      rw [List.getD_eq_getElem?_getD, List.getElem?_eq_getElem (by omega)]
      exact h.byte _ (List.getElem_mem _)
    have hv := and_u8 (L.getD p 0) (f + 1) hx (by omega)
    have hb2 := and_bit (L.getD p 0) f hx hf
    unfold hasB
    obtain ⟨x, hxe⟩ : ∃ x, L.getD p 0 = x := ⟨_, rfl⟩
    rw [hxe] at q hv hb2 ⊢
    obtain ⟨y, hy⟩ : ∃ y, x &&& (f + 1) = y := ⟨_, rfl⟩
    rw [hy] at hv hb2
    obtain ⟨R, hR⟩ : ∃ R, x.testBit f = R := ⟨_, rfl⟩
    rw [hR] at hb2 ⊢
    have hb3 : (((y : Nat) : Int) != 0) = R := by rw [← hb2]; cases y <;> rfl
    have hv2 : bits BinOp.and IntKind.u8 (x : Int) ((f : Int) + 1) = (y : Nat) := by rw [← hv]; simp
    have q1 : ∀ z : Later w.heap.size w, z.w.cell? ⟨b, off + p, none⟩ = some (.int .u8 (x : Nat)) := fun z => (z.below.cell (p := ⟨b, off + p, none⟩) hlt).trans q
    have nB : ∀ z : Later w.heap.size w, Calls Try.prog 35 #[.int .i64 (f : Nat)] z.w fun e w' => e = .returned (.int .u8 ((f + 1 : Nat) : Int)) ∧ Below z.w.heap.size z.w w' := fun z => (bit_any z.w f hf).mono fun e w' ⟨h1, h2⟩ => ⟨h1, h2 ▸ Below.refl _ _⟩
    have i1 : (p : Int) < (l : Int) := by omega
    clear h hc hl hx hxe hy hR hb2 hv
    go_enter Try.func25, Try.ntmps25
    go_wp2_with fail
    refine wp_region_later w.heap.size w (by kernel_rfl) (by kernel_rfl) (Below.refl _ _) ?_
    repeat (go_big_quiet_step ((go_at_call 35; refine Calls.later0 (nB _))))
    refine wpQuiet_nil ?_
    intro _ hlat
    obtain ⟨x, rfl⟩ := hlat
    go_wp2_with fail
    go_ret
    exact ⟨rfl, x.below⟩
  · have d1 : decide (p < l) = false := by simpa using hpl
    rw [hasB_out (by omega)]
    go_enter Try.func25, Try.ntmps25
    go_wp2_with fail
    refine wp_region_later w.heap.size w (by kernel_rfl) (by kernel_rfl) (Below.refl _ _) ?_
    repeat (go_big_quiet_step (fail))
    refine wpQuiet_nil ?_
    intro _ hlat
    obtain ⟨x, rfl⟩ := hlat
    go_wp2_with fail
    go_ret
    exact ⟨rfl, x.below⟩
theorem splice_zero (L : List Nat) (M : Nat) (h : L.length ≤ M) : splice (List.replicate M (Value.int .u8 0)) 0 (L.map fun (n : Nat) => Value.int .u8 (n : Int)) = (L ++ List.replicate (M - L.length) 0).map fun (n : Nat) => Value.int .u8 (n : Int) := by
  simp [splice]
theorem rowBytes {w : World} {g l c : Nat} {K : List Nat} (h : w.heap[g]? = some (.cells (K.map fun (n : Nat) => Value.int .u8 (n : Int)).toArray 5 (0, 0))) (hl : K.length = l) (hs : l ≤ 9223372036854775807) (hb : ∀ n ∈ K, n < 256) : BytesAt w (some ⟨g, 0, none⟩) l c K := by
  refine ⟨hl, hs, hb, nofun, .inr ⟨g, 0, rfl, (Array.getElem?_eq_some_iff.1 h).1, fun i hi => ?_⟩⟩
  rw [Nat.zero_add, cell_of_row _ _ _ _ _ _ h, List.getElem?_toArray, List.getElem?_map, List.getElem?_eq_getElem (by omega), List.getD_eq_getElem?_getD, List.getElem?_eq_getElem (by omega)]
  rfl
set_option maxRecDepth 20000 in
set_option maxHeartbeats 1000000 in
theorem with_any (w : World) (a : Option Addr) (l c : Nat) (L : List Nat) (h : BytesAt w a l c L) (p f : Nat) (hf : f < 2) (hp : p < 1048576) (hl6 : l ≤ 1048576) :
    Calls Try.prog 23 #[.slice a l c, .int .i64 (p : Nat), .int .i64 (f : Nat)] w fun e w' => (∃ (a' : Option Addr) (l' c' : Nat) (L' : List Nat), e = .returned (.slice a' l' c') ∧ BytesAt w' a' l' c' L' ∧ (∀ q g, g < 2 → hasB L' q g = (hasB L q g || (decide (q = p) && decide (g = f)))) ∧ L'.length ≤ max L.length (p + 1)) ∧ Below w.heap.size w w' := by
  have hl := h.len_eq
  cases hR : hasB L p f with
  | true =>
    have hh := fun w' (hb : Below w.heap.size w w') => has_any w' a l c L (h.mono hb) p f hf (by omega)
    rw [hR] at hh
    go_enter Try.func23, Try.ntmps23
    go_wp2_with fail
    refine (hh _ (Below.refl _ _)).mono ?_
    rintro e w1 ⟨rfl, b1⟩
    go_wp2_with fail
    go_ret
    refine ⟨⟨a, l, c, L, rfl, h.mono b1, fun q g hg => ?_, by omega⟩, b1⟩
    by_cases hq : q = p ∧ g = f
    · obtain ⟨rfl, rfl⟩ := hq
      rw [hR]
      rfl
    · have : (decide (q = p) && decide (g = f)) = false := by simpa using hq
      rw [this, Bool.or_false]
  | false =>
    have hh := fun w' (hb : Below w.heap.size w w') => has_any w' a l c L (h.mono hb) p f hf (by omega)
    rw [hR] at hh
    obtain ⟨M, hM⟩ : ∃ M, max l (p + 1) = M := ⟨_, rfl⟩
    have hM1 : p < M := by omega
    have hM2 : l ≤ M := by omega
    have hM3 : M ≤ 1048577 := by omega
    have hmx : ∀ (ts : Array TypeId) (t : TypeId) (w : World), (Builtin.max_ ts t #[.int .i64 (l : Int), .int .i64 ((p : Int) + 1)]).run Try.prog w = .ok (.int .i64 (M : Nat)) w := fun ts t w => by
      rw [run_max_int2, show (if (p : Int) + 1 > (l : Int) then (p : Int) + 1 else (l : Int)) = (M : Nat) by split <;> omega]
    have hMe : M - l = p + 1 - l := by omega
    have HM := Lib.hid hM
    have HL := Lib.hid hl
    have HME := Lib.hid hMe
    clear hM hl hMe
    go_enter Try.func23, Try.ntmps23
    go_wp2_with fail
    refine (hh _ (Below.refl _ _)).mono ?_
    rintro e w1 ⟨rfl, b1⟩
    have hw1 := h.mono b1
    go_upto_region 5 with (first | (at_make; refine make_room rfl _ _ 29 5 rfl Try.underlying29 (Value.int .u8 0) 1 Try.info_u8 rfl M M rfl rfl (Nat.le_refl _) (by omega) ?_; intro w2 g2 z2 b2; have hw2 := hw1.mono b2) | (refine wpList_copy_splice (o := ⟨some 21, _, _, _, _, _⟩) rfl (.tmp 19) (.tmp 20) 29 29 rfl 5 Try.underlying29 (by kernel_rfl) (some ⟨w1.heap.size, 0, none⟩) a M M l c rfl rfl w1.heap.size 0 (List.replicate M (Value.int .u8 0)) 5 g2 (L.map fun (n : Nat) => Value.int .u8 (n : Int)) (by rw [List.length_map, HL.out]; exact (Nat.min_eq_left hM2).symm) (fun hp => ⟨rfl, by rcases hw2.at_ with h0 | ⟨b, off, ha, _, _⟩; (rw [List.length_map, HL.out] at hp; omega); exact ⟨_, ha, fun j v hj => hw2.news _ ha j v hj⟩⟩) (by rw [List.length_replicate, List.length_map, HL.out]; omega) (bytes_oneCell _) w1.heap.size w1 b2 (Nat.le_refl _) ?_; intro w3 g3 b3) | fail)
    have gz : w3.heap[w1.heap.size]? = some (.cells ((L ++ List.replicate (p + 1 - L.length) 0).map fun (n : Nat) => Value.int .u8 (n : Int)).toArray 5 (0, 0)) := by
      rw [g3.out, splice_zero L M (by rw [HL.out]; exact hM2), HL.out, HME.out]
    obtain ⟨X, hX⟩ : ∃ X, L ++ List.replicate (p + 1 - L.length) 0 = X := ⟨_, rfl⟩
    have hXl : X.length = M := by rw [← hX, List.length_append, List.length_replicate, HL.out]; have := HM.out; omega
    have hXp : X.getD p 0 = L.getD p 0 := by
      rw [← hX]
      by_cases h1 : p < L.length
      · rw [List.getD_eq_getElem?_getD, List.getElem?_append_left h1, ← List.getD_eq_getElem?_getD]
      · rw [getD_out (L := L) (q := p) (by omega), List.getD_eq_getElem?_getD, List.getElem?_append_right (by omega), List.getElem?_replicate]
        split <;> rfl
    have hXb : ∀ n ∈ X, n < 256 := fun n hn => by
      rw [← hX] at hn
      rcases List.mem_append.1 hn with hn | hn
      · exact h.byte n hn
      · rw [(List.mem_replicate.1 hn).2]
        decide
    have hwX : withB L p f = X.set p (L.getD p 0 ||| (f + 1)) := by rw [← hX]; rfl
    rw [hX] at gz
    obtain ⟨g, hg⟩ : ∃ g, w1.heap.size = g := ⟨_, rfl⟩
    rw [hg] at gz ⊢
    have q0 : w3.cell? ⟨g, p, none⟩ = some (.int .u8 ((L.getD p 0 : Nat) : Int)) := by
      rw [cell_of_row _ _ _ _ _ _ gz, List.getElem?_toArray, List.getElem?_map, List.getElem?_eq_getElem (by omega)]
      rw [← hXp, List.getD_eq_getElem?_getD, List.getElem?_eq_getElem (by omega)]
      rfl
    have z0 := frozen_of_row w3 g p _ _ gz
    have hx256 : L.getD p 0 < 256 := by
      rw [← hXp, List.getD_eq_getElem?_getD, List.getElem?_eq_getElem (by omega)]
      exact hXb _ (List.getElem_mem _)
    have hv := or_u8 (L.getD p 0) (f + 1) hx256 (by omega)
    obtain ⟨x, hx⟩ : ∃ x, L.getD p 0 = x := ⟨_, rfl⟩
    rw [hx] at q0 hv hwX
    obtain ⟨y, hy⟩ : ∃ y, x ||| (f + 1) = y := ⟨_, rfl⟩
    rw [hy] at hv hwX
    have hv2 : bits BinOp.or IntKind.u8 (x : Int) ((f : Int) + 1) = (y : Nat) := by rw [← hv]; simp
    have gn := Joins.block_setCell (i := p) gz (.int .u8 ((y : Nat) : Int))
    have gK : (w3.setCell ⟨g, p, none⟩ (.int .u8 ((y : Nat) : Int))).heap[g]? = some (.cells ((withB L p f).map fun (n : Nat) => Value.int .u8 (n : Int)).toArray 5 (0, 0)) := by
      rw [gn, hwX, List.map_set, List.setIfInBounds_toArray]
    have hKb : ∀ n ∈ withB L p f, n < 256 := withB_byte h.byte hf
    have hgw : w.heap.size ≤ g := by rw [← hg]; exact b1.size
    have HWX := Lib.hid hwX
    clear gn
    have HG := Lib.hid hg
    have HXL := Lib.hid hXl
    have HBT := Lib.hid (below_then b1 b3)
    have i1 : (p : Int) < (M : Int) := by omega
    clear hX hXp hx hy hv hwX g3 g2 hw1 hw2 hh hg hXl hR h b2 b3 hmx
    go_region_with (go_at_call 35; refine (bit_any _ f hf).mono ?_; rintro e wb ⟨rfl, rfl⟩)
    all_goals
      go_wp2_with fail
      go_ret
      refine ⟨⟨some ⟨g, 0, none⟩, M, M, withB L p f, rfl, ?_, fun q g hg => hasB_withB hf hg, by rw [withB_len]; exact Nat.le_refl _⟩, ?_⟩
      · exact rowBytes gK (by rw [HWX.out, List.length_set, HXL.out]) (by omega) hKb
      · first
        | exact HBT.out.setCell (by show w.heap.size ≤ g; omega) _
        | exact (HBT.out.setCell (by show w.heap.size ≤ g; omega) _).drew
        | exact (HBT.out.drew).setCell (by show w.heap.size ≤ g; omega) _
end Go.Proofs.Ytbbdeefnooaacaa
