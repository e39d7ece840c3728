/- MixShifts's walk. -/
import Derived.Test.YtgmdiieoikldfaaMixIn
namespace Go.Proofs.Ytgmdiieoikldfaa
open Go.RowKit
set_option linter.unusedVariables false

theorem IntsAt.drop1 {w : World} {b off len : Nat} {l : List Int} (h : IntsAt w (some ⟨b, off, none⟩) len l) (m : Nat) (hm : len = m + 1) : IntsAt w (some ⟨b, off + 1, none⟩) m l.tail := by
  obtain ⟨h1, h2, h3⟩ := h
  refine ⟨by rw [List.length_tail]; omega, by omega, ?_⟩
  rcases h3 with h0 | ⟨b', off', ha, hb, hc⟩
  · omega
  · simp at ha
    obtain ⟨rfl, rfl⟩ := ha
    refine .inr ⟨_, _, rfl, hb, fun i hi => ?_⟩
    rw [show off + 1 + i = off + (i + 1) from by omega, hc (i + 1) (by omega)]
    simp [List.getD]
theorem IntsAt.none0 {w : World} {a : Option Addr} {l : List Int} (h : l = []) : IntsAt w a 0 l := ⟨by rw [h]; rfl, by omega, .inl rfl⟩
theorem placeAt_shift (l : List Nat) (seed s1 : Nat) (h : s1 = (seed + 1) % 18446744073709551616) (p : Int) (i : Nat) : placeAt l seed p (i + 1) = placeAt l s1 p i := by
  unfold placeAt
  rw [h]
  congr 2
  omega
theorem placesS_tail (l : List Nat) (seed s1 : Nat) (h : s1 = (seed + 1) % 18446744073709551616) (p : Int) (m m1 : Nat) (hm : m = m1 + 1) : (placesS l seed p m).tail = placesS l s1 p m1 := by
  subst hm
  unfold placesS
  rw [List.range_succ_eq_map, List.map_cons, List.tail_cons, List.map_map]
  exact List.map_congr_left fun i _ => placeAt_shift l seed s1 h p i
theorem placeS_double (h : Nat) (p q : Int) (hp : 1 ≤ p) (hq : q = 2 * p) : placeS h q = placeS h p ∨ placeS h q = placeS h p + p := by
  unfold placeS
  rw [if_neg (by omega), if_neg (by omega)]
  subst hq
  have e1 := Int.emod_add_mul_ediv (h : Int) (2 * p)
  have b1 := Int.emod_nonneg (h : Int) (b := 2 * p) (by omega)
  have b2 := Int.emod_lt_of_pos (h : Int) (b := 2 * p) (by omega)
  have hx : (h : Int) % p = ((h : Int) % (2 * p)) % p := by
    rw [Int.emod_emod_of_dvd _ ⟨2, by rw [Int.mul_comm]⟩]
  rw [hx]
  generalize (h : Int) % (2 * p) = x at *
  by_cases hlt : x < p
  · left; rw [Int.emod_eq_of_lt b1 hlt]
  · right
    have : x % p = x - p := by
      rw [← Int.sub_emod_right, Int.emod_eq_of_lt (by omega) (by omega)]
    omega
theorem placeS_one (h : Nat) : placeS h 1 = 0 := by unfold placeS; rw [if_neg (by omega)]; omega

set_option maxHeartbeats 2000000 in
theorem shifts_short (w : World) (a : Option Addr) (len cap : Nat) (l : List Nat) (seed k n : Nat) (hs : seed < 18446744073709551616) (hk : k < 256) (hn : n < 4294967296) (hl : BytesAt w a len cap l) (hlen : len ≤ 1000) :
    Calls Try.prog 6 #[.agg #[.slice a len cap, .int .u64 (seed : Int), .int .u8 (k : Int), .int .u32 (n : Int)]] w fun e w' => e = .returned (.bool true) ∧ Below w.heap.size w w' := by
  obtain ⟨m1, hm⟩ : ∃ m1 : Nat, (k : Int) % 60 = (m1 : Int) := ⟨k % 60, by omega⟩
  obtain ⟨m, hmm⟩ : ∃ m : Nat, (1 : Int) + (m1 : Int) = (m : Int) := ⟨1 + m1, by omega⟩
  have hm1 : (m : Int) - 1 = (m1 : Int) := by omega
  have hmE : m = m1 + 1 := by omega
  obtain ⟨p, hp⟩ : ∃ p : Nat, (1 : Int) + (n : Int) = (p : Int) := ⟨1 + n, by omega⟩
  obtain ⟨q, hq⟩ : ∃ q : Nat, 2 * (p : Int) = (q : Int) := ⟨2 * p, by omega⟩
  obtain ⟨s1, hs1⟩ : ∃ s1 : Nat, s1 = (seed + 1) % 18446744073709551616 := ⟨_, rfl⟩
  have hsw : IntKind.u64.wrap ((seed : Int) + 1) = (s1 : Int) := by rw [IntKind.wrap_u64]; omega
  have hs1b : s1 < 18446744073709551616 := by omega
  have hmb : m1 < 60 := by omega
  have hp1 : 1 ≤ p := by omega
  have hp2 : p ≤ 4294967296 := by omega
  have hqE : q = 2 * p := by omega
  have HM := Lib.hid hmE
  have HQ := Lib.hid hqE
  have HS := Lib.hid hs1
  have hmle : m ≤ 60 := by omega
  have hm0 : 1 ≤ m := by omega
  have hqb : q ≤ 8589934592 := by omega
  clear hmE hqE hs1
  go_enter Try.func6, Try.ntmps6
  go_wp2_with fail
  refine (shown_any _).mono ?_
  rintro e w1 ⟨rfl, b1⟩
  have z1 := b1.size
  simp at z1
  have bb1 : Below w.heap.size w w1 := ((Below.refl _ _).alloc (Nat.le_refl _) _).trans (b1.mono (by simp))
  have hl1 := hl.mono bb1
  go_wp2_with fail
  refine (mixPlaces_any _ _ _ _ l seed hs m (by omega) p (by omega) (by omega) hl1).mono ?_
  rintro e w2 ⟨a2, cap2, rfl, c2, d2, i2, b2⟩
  have hl2 := hl1.mono b2
  go_wp2_with fail
  refine (mixPlaces_any _ _ _ _ l s1 hs1b m1 (by omega) p (by omega) (by omega) hl2).mono ?_
  rintro e w3 ⟨a3, cap3, rfl, c3, d3, i3, b3⟩
  have hl3 := hl2.mono b3
  go_wp2_with fail
  refine (mixPlaces_any _ _ _ _ l seed hs m (by omega) 1 (by omega) (by omega) hl3).mono ?_
  rintro e w4 ⟨a4, cap4, rfl, c4, d4, i4, b4⟩
  have hl4 := hl3.mono b4
  go_wp2_with fail
  refine (mixPlaces_any _ _ _ _ l seed hs m (by omega) q (by omega) (by omega) hl4).mono ?_
  rintro e w5 ⟨a5, cap5, rfl, c5, d5, i5, b5⟩
  have i25 := ((i2.mono b3).mono b4).mono b5
  have i35 := (i3.mono b4).mono b5
  have i45 := i4.mono b5
  obtain ⟨g2, o2, rfl, hg2, hc2⟩ := i25.3.resolve_left (by omega)
  obtain ⟨g4, o4, rfl, hg4, hc4⟩ := i45.3.resolve_left (by omega)
  obtain ⟨g5, o5, rfl, hg5, hc5⟩ := i5.3.resolve_left (by omega)
  have htail := placesS_tail l seed s1 HS.out p m m1 HM.out
  have HT := Lib.hid htail
  clear htail
  have s2 := b2.size
  have s3 := b3.size
  have s4 := b4.size
  have s5 := b5.size
  have bb5 : Below w.heap.size w w5 := bb1.trans ((b2.mono (by omega)).trans ((b3.mono (by omega)).trans ((b4.mono (by omega)).trans (b5.mono (by omega)))))
  go_wp2_with fail
  all_goals
    rw [show m - 1 = m1 from by have := HM.out; omega]
    refine (vec_any _ _ _ _ _ _ _ (placesS l s1 p m1) _ ?_ i35).mono ?_
    · first
        | (rw [← HT.out]; exact i25.drop1 m1 HM.out)
        | (have h0 : m1 = 0 := by (have := HM.out; omega)
           subst h0; exact IntsAt.none0 rfl)
    rw [decide_eq_true rfl]
    rintro e w6 ⟨rfl, b6⟩
    have s6 := b6.size
    go_wp2
    go_loopw [14] (fun i wr => ∃ j : Nat, j ≤ m ∧ i = .int .i64 j ∧ Below w5.heap.size w5 wr) (fun i _ => m - (intOf i).toNat)
    case atStart => exact ⟨0, by omega, rfl, b6⟩
    case round =>
      obtain ⟨j, hj, rfl, hbel⟩ := hrel
      by_cases hjm : j < m
      · have x2 : ∀ x : Later w5.heap.size w5, x.w.cell? ⟨g2, o2 + j, none⟩ = some (.int .i64 (placeAt l seed p j)) := fun x => by rw [x.cell g2 _ hg2, hc2 j hjm, placesS_getD _ _ _ _ _ hjm]
        have x4 : ∀ x : Later w5.heap.size w5, x.w.cell? ⟨g4, o4 + j, none⟩ = some (.int .i64 0) := fun x => by rw [x.cell g4 _ hg4, hc4 j hjm, placesS_getD _ _ _ _ _ hjm]; unfold placeAt; rw [placeS_one]
        have x5 : ∀ x : Later w5.heap.size w5, x.w.cell? ⟨g5, o5 + j, none⟩ = some (.int .i64 (placeAt l seed q j)) := fun x => by rw [x.cell g5 _ hg5, hc5 j hjm, placesS_getD _ _ _ _ _ hjm]
        have hd : placeAt l seed q j = placeAt l seed p j ∨ placeAt l seed q j = placeAt l seed p j + p := placeS_double _ _ _ (by omega) (by have := HQ.out; omega)
        have hpa := placeS_nonneg (hashS l ((seed + j) % 18446744073709551616)) p
        have hpb := placeS_lt (hashS l ((seed + j) % 18446744073709551616)) p (by omega)
        change 0 ≤ placeAt l seed p j at hpa
        change placeAt l seed p j < p at hpb
        generalize placeAt l seed p j = X at *
        generalize placeAt l seed q j = Y at *
        clear hc2 hc4 hc5 i25 i35 i45 i5 i2 i3 i4
        rcases hd with rfl | rfl
        · go_wp2
          refine wp_region_later w5.heap.size w5 (by kernel_rfl) (by kernel_rfl) hbel ?_
          repeat (go_big_quiet_step (fail))
          refine wpQuiet_nil ?_
          intro _ hx
          obtain ⟨x, rfl⟩ := hx
          have hbx := x.below
          go_wp2
          go_roundw
          case rel => exact ⟨j + 1, by omega, by go_num, hbx⟩
          case measure => simp [intOf]; omega
        · have f1 : ((X + (p : Int)) == X) = false := by simp; omega
          have f2 : ((X + (p : Int)) != X) = true := by simp; omega
          have f3 : ((X + (p : Int)) != (X + (p : Int))) = false := by simp
          go_wp2
          refine wp_region_later w5.heap.size w5 (by kernel_rfl) (by kernel_rfl) hbel ?_
          repeat (go_big_quiet_step (fail))
          refine wpQuiet_nil ?_
          intro _ hx
          obtain ⟨x, rfl⟩ := hx
          have hbx := x.below
          go_wp2
          go_roundw
          case rel => exact ⟨j + 1, by omega, by go_num, hbx⟩
          case measure => simp [intOf]; omega
      · obtain rfl : j = m := by omega
        go_wp2
        go_ret
        exact ⟨rfl, bb5.trans (hbel.mono (by omega))⟩
theorem shifts_long (w : World) (a : Option Addr) (len cap : Nat) (seed k n : Int) (hlen : ¬ len ≤ 1000) (hm : len ≤ 9223372036854775807) :
    Calls Try.prog 6 #[.agg #[.slice a len cap, .int .u64 seed, .int .u8 k, .int .u32 n]] w fun e w' => e = .returned (.bool true) ∧ Below w.heap.size w w' := by
  have hlt : (1000 : Int) < (len : Int) := by omega
  go_enter Try.func6, Try.ntmps6
  go_wp2_with fail
  refine (shown_any _).mono ?_
  rintro e w1 ⟨rfl, b1⟩
  go_wp2
  go_ret
  exact ⟨rfl, ((Below.refl _ _).alloc (Nat.le_refl _) _).trans (b1.mono (by simp))⟩
theorem shifts_any (w : World) (a : Option Addr) (len cap : Nat) (l : List Nat) (seed k n : Nat) (hs : seed < 18446744073709551616) (hk : k < 256) (hn : n < 4294967296) (hl : BytesAt w a len cap l) :
    Calls Try.prog 6 #[.agg #[.slice a len cap, .int .u64 (seed : Int), .int .u8 (k : Int), .int .u32 (n : Int)]] w fun e w' => e = .returned (.bool true) ∧ Below w.heap.size w w' := by
  by_cases h : len ≤ 1000
  · exact shifts_short w a len cap l seed k n hs hk hn hl h
  · exact shifts_long w a len cap seed k n h hl.2
end Go.Proofs.Ytgmdiieoikldfaa
