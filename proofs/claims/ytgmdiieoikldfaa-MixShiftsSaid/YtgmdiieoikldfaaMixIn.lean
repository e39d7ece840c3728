/- MixIn's walk. -/
import Derived.Test.YtgmdiieoikldfaaMixShown
import Derived.Test.YtgmdiieoikldfaaLater
namespace Go.Proofs.Ytgmdiieoikldfaa
open Go.RowKit
set_option linter.unusedVariables false

theorem IntsAt.take {w : World} {a : Option Addr} {len : Nat} {l : List Int} (h : IntsAt w a len l) (k : Nat) (hk : k ≤ len) : IntsAt w a k (l.take k) := by
  obtain ⟨h1, h2, h3⟩ := h
  refine ⟨by rw [List.length_take]; omega, by omega, ?_⟩
  rcases h3 with h0 | ⟨b, off, ha, hb, hc⟩
  · exact .inl (by omega)
  · refine .inr ⟨b, off, ha, hb, fun i hi => ?_⟩
    rw [hc i (by omega)]
    simp [List.getD, hi]
theorem placesS_take (l : List Nat) (seed : Nat) (n : Int) (m h : Nat) (hh : h ≤ m) : (placesS l seed n m).take h = placesS l seed n h := by
  unfold placesS
  rw [← List.map_take, List.take_range, Nat.min_eq_left hh]
theorem placeS_nonneg (h : Nat) (n : Int) : 0 ≤ placeS h n := by
  unfold placeS; split
  · omega
  · exact Int.emod_nonneg _ (by omega)
theorem placeS_zero (h : Nat) (n : Int) (hn : n < 1) : placeS h n = 0 := by unfold placeS; rw [if_pos hn]
theorem placeS_lt (h : Nat) (n : Int) (hn : 1 ≤ n) : placeS h n < n := by unfold placeS; rw [if_neg (by omega)]; exact Int.emod_lt_of_pos _ (by omega)
set_option maxHeartbeats 2000000 in
theorem in_short (w : World) (a : Option Addr) (len cap : Nat) (l : List Nat) (seed k : Nat) (n : Int) (hs : seed < 18446744073709551616) (hk : k < 256) (n1 : -9223372036854775808 ≤ n) (n2 : n ≤ 9223372036854775807) (hl : BytesAt w a len cap l) (hlen : len ≤ 1000) :
    Calls Try.prog 4 #[.agg #[.slice a len cap, .int .u64 (seed : Int), .int .u8 (k : Int), .int .i64 n]] w fun e w' => e = .returned (.bool true) ∧ Below w.heap.size w w' := by
  obtain ⟨m, hm⟩ : ∃ m : Nat, (k : Int) % 100 = (m : Int) := ⟨k % 100, by omega⟩
  obtain ⟨h, hh⟩ : ∃ h : Nat, (m : Int) / 2 = (h : Int) := ⟨m / 2, by omega⟩
  have hmb : m < 100 := by omega
  have hhb : h ≤ m := by omega
  have hhm : h = m / 2 := by omega
  have HHM := Lib.hid hhm
  clear hhm
  go_enter Try.func4, Try.ntmps4
  go_wp2_with fail
  refine (shown_any _).mono ?_
  rintro e w1 ⟨rfl, b1⟩
  have hs1 := b1.size
  simp at hs1
  have bb1 : Below w.heap.size w w1 := ((Below.refl _ _).alloc (Nat.le_refl _) _).trans (b1.mono (by simp))
  have hl1 := hl.mono bb1
  go_wp2_with fail
  refine (mixPlaces_any _ _ _ _ l seed hs m (by omega) n n1 n2 hl1).mono ?_
  rintro e w2 ⟨a2, cap2, rfl, c2, d2, i2, b2⟩
  have hl2 := hl1.mono b2
  go_wp2_with fail
  refine (mixPlaces_any _ _ _ _ l seed hs h (by omega) n n1 n2 hl2).mono ?_
  rintro e w3 ⟨a3, cap3, rfl, c3, d3, i3, b3⟩
  have hl3 := hl2.mono b3
  have i23 := i2.mono b3
  go_wp2_with fail
  refine (vec_any _ _ _ _ _ _ _ _ _ (i23.take h hhb) i3).mono ?_
  rw [decide_eq_true (placesS_take l seed n m h hhb)]
  rintro e w4 ⟨rfl, b4⟩
  have hl4 := hl3.mono b4
  go_wp2_with fail
  refine (mixPlaces_any _ _ _ _ l seed hs m (by omega) n n1 n2 hl4).mono ?_
  rintro e w5 ⟨a5, cap5, rfl, c5, d5, i5, b5⟩
  have hl5 := hl4.mono b5
  have i25 := (i23.mono b4).mono b5
  go_wp2_with fail
  refine (vec_any _ _ _ _ _ _ _ _ _ i5 i25).mono ?_
  rw [decide_eq_true rfl]
  rintro e w6 ⟨rfl, b6⟩
  have hl6 := hl5.mono b6
  have i26 := i25.mono b6
  have s2 := b2.size
  have s3 := b3.size
  have s4 := b4.size
  have s5 := b5.size
  have s6 := b6.size
  have bb6 : Below w.heap.size w w6 := bb1.trans ((b2.mono (by omega)).trans ((b3.mono (by omega)).trans ((b4.mono (by omega)).trans ((b5.mono (by omega)).trans (b6.mono (by omega))))))
  go_wp2
  go_loopw [11] (fun i wr => ∃ j : Nat, j ≤ m ∧ i = .int .i64 j ∧ Below w6.heap.size w6 wr) (fun i _ => m - (intOf i).toNat)
  case atStart => exact ⟨0, by omega, rfl, Below.refl _ _⟩
  case round =>
    obtain ⟨j, hj, rfl, hbel⟩ := hrel
    by_cases hjm : j < m
    · have hm0 : m ≠ 0 := by omega
      obtain ⟨bq, oq, rfl, hbq, hcq⟩ := i26.3.resolve_left hm0
      have hce := hcq j hjm
      rw [placesS_getD _ _ _ _ _ hjm] at hce
      have hlm : (seed + j) % 18446744073709551616 < 18446744073709551616 := by omega
      have hpb := hashS_lt l ((seed + j) % 18446744073709551616)
      have hseed := Lib.hid (seedSum seed j (by omega))
      have hP : placeS (hashS l ((seed + j) % 18446744073709551616)) n = placeAt l seed n j := rfl
      have hp0 : 0 ≤ placeAt l seed n j := placeS_nonneg _ _
      have hp1 : n < 1 → placeAt l seed n j = 0 := placeS_zero _ _
      have hp2 : 1 ≤ n → placeAt l seed n j < n := placeS_lt _ _
      generalize placeAt l seed n j = p at *
      have hcl : ∀ x : Later w6.heap.size w6, x.w.cell? ⟨bq, oq + j, none⟩ = some (.int .i64 p) := fun x => (x.cell bq _ hbq).trans hce
      have e1 : decide (p < 0) = false := by simp; omega
      clear hcq i26 i25 i2 i23 i5 hce
      by_cases hn : n < 1
      · have e2 : p = 0 := hp1 hn
        subst e2
        have e3 : decide (1 ≤ n) = false := by simp; omega
        clear hp1 hp2
        go_wp2
        refine wp_region_later w6.heap.size w6 (by kernel_rfl) (by kernel_rfl) hbel ?_
        repeat (go_big_quiet_step ((first | (go_at_call 8; rw [hseed.out]; refine Calls.later0 (mixHash_any _ _ _ _ l _ hlm (hl6.mono (Later.below _)))) | (go_at_call 10; refine Calls.later_same (mixPlace_any _ _ _ hpb n1 n2)))))
        refine wpQuiet_nil ?_
        intro _ hx
        obtain ⟨x, rfl⟩ := hx
        have hbx := x.below
        go_wp2
        go_roundw
        case rel => exact ⟨j + 1, by omega, by go_num, hbx⟩
        case measure => simp [intOf]; omega
      · have e2 : p < n := hp2 (by omega)
        have e3 : decide (1 ≤ n) = true := by simp; omega
        have e4 : decide (n ≤ p) = false := by simp; omega
        have e5 : decide (n < 1) = false := by simp; omega
        clear hp1 hp2
        go_wp2
        refine wp_region_later w6.heap.size w6 (by kernel_rfl) (by kernel_rfl) hbel ?_
        repeat (go_big_quiet_step ((first | (go_at_call 8; rw [hseed.out]; refine Calls.later0 (mixHash_any _ _ _ _ l _ hlm (hl6.mono (Later.below _)))) | (go_at_call 10; refine Calls.later_same (mixPlace_any _ _ _ hpb n1 n2)))))
        refine wpQuiet_nil ?_
        intro _ hx
        obtain ⟨x, rfl⟩ := hx
        have hbx := x.below
        go_wp2
        go_roundw
        case rel => exact ⟨j + 1, by omega, by go_num, hbx⟩
        case measure => simp [intOf]; omega
    · obtain rfl : j = m := by omega
      go_wp2
      go_ret
      exact ⟨rfl, bb6.trans (hbel.mono (by omega))⟩
theorem in_long (w : World) (a : Option Addr) (len cap : Nat) (seed k n : Int) (hlen : ¬ len ≤ 1000) (hm : len ≤ 9223372036854775807) :
    Calls Try.prog 4 #[.agg #[.slice a len cap, .int .u64 seed, .int .u8 k, .int .i64 n]] w fun e w' => e = .returned (.bool true) ∧ Below w.heap.size w w' := by
  have hlt : (1000 : Int) < (len : Int) := by omega
  go_enter Try.func4, Try.ntmps4
  go_wp2_with fail
  refine (shown_any _).mono ?_
  rintro e w1 ⟨rfl, b1⟩
  go_wp2
  go_ret
  exact ⟨rfl, ((Below.refl _ _).alloc (Nat.le_refl _) _).trans (b1.mono (by simp))⟩
theorem in_any (w : World) (a : Option Addr) (len cap : Nat) (l : List Nat) (seed k : Nat) (n : Int) (hs : seed < 18446744073709551616) (hk : k < 256) (n1 : -9223372036854775808 ≤ n) (n2 : n ≤ 9223372036854775807) (hl : BytesAt w a len cap l) :
    Calls Try.prog 4 #[.agg #[.slice a len cap, .int .u64 (seed : Int), .int .u8 (k : Int), .int .i64 n]] w fun e w' => e = .returned (.bool true) ∧ Below w.heap.size w w' := by
  by_cases h : len ≤ 1000
  · exact in_short w a len cap l seed k n hs hk n1 n2 hl h
  · exact in_long w a len cap seed k n h hl.2
end Go.Proofs.Ytgmdiieoikldfaa
